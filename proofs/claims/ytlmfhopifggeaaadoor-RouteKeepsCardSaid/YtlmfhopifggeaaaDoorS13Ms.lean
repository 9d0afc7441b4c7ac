/-
  A region that draws its order and stores twice: what is held until number k has come up (S), what is held throughout (T). A mover: copies of lists; an operation that was made beside it is appended. An operation is done on a device, as the program does it. Where qubits stand at the start, as the program tells it. The program's Check of a device; what is answered by Fit. What Fit answers, in plain lists.
-/
import Derived.Test.YtlmfhopifggeaaaDoorProg
import Derived.Test.YtlmfhopifggeaaaDoorRows
import Derived.BigQuiet
import Derived.Deep.AppendLies
import Derived.Deep.Cut
import Derived.Deep.CutRange
import Derived.Deep.LoopGhost
import Derived.Deep.QuietTactic
import Derived.Deep.RegionHeld3
import Derived.Ground.Names2Prog
import Derived.Ground.SlgnProg
import Derived.Laws.Bits64b
import Derived.Laws.CopyOwn
import Derived.Laws.ResultCell
import Derived.Lib.AppendZeros
import Derived.Lib.BitFns
import Derived.Lib.Hide
import Derived.Lib.ItoaMem
import Derived.Lib.ItoaNum
import Derived.Lib.Strings
import Derived.Lib.TrailingZeros
import Derived.Maps.AppendAt
import Derived.OrdersHeld
import Derived.OrdersIn
import Derived.OwnWalk
import Derived.ProofKit
import Derived.RangeFuncCalls
import Derived.RangeFuncFrom
import Derived.RegionTactic
import Derived.Shelf.Slices.Clone
import Derived.Shelf.SlicesE.Clone
import Derived.Shelf.Spec.TrailingZeros
import Derived.WalkKit
import Derived.WalkLawsBesides
import Derived.WalkSpells
import Derived.Test.YtlmfhopifggeaaaDoorS00Mem
import Derived.Test.YtlmfhopifggeaaaDoorShelf
import Derived.Test.YtlmfhopifggeaaaDoorS02ZBq
import Derived.Test.YtlmfhopifggeaaaDoorS03ZKq
import Derived.Test.YtlmfhopifggeaaaDoorS05Wf
import Derived.Test.YtlmfhopifggeaaaDoorS06Xfq
import Derived.Test.YtlmfhopifggeaaaDoorS07Cn
import Derived.Test.YtlmfhopifggeaaaDoorS08Cj
import Derived.Test.YtlmfhopifggeaaaDoorS09Mb
import Derived.Test.YtlmfhopifggeaaaDoorS10Mf
import Derived.Test.YtlmfhopifggeaaaDoorS11Mh
import Derived.Test.YtlmfhopifggeaaaDoorS12Mm
namespace Go.Proofs.YtlmfhopifggeaaaDoor

section
variable {P : Program} {ops : Array Oper} {Q : Exit → Act → World → Prop} {md : Region.Mode} {S T : World → Prop} {k : Nat}

def anyT (P : Program) (md : Region.Mode) (ops : Array Oper) (Q : Exit → Act → World → Prop) (k : Nat) (S T : World → Prop) : Nat → Array Bool → Act → World → Prop
  | 0, l, a, w => Region.ready md ops l = [] ∧ Q .normal a w
  | n + 1, l, a, w => (Region.ready md ops l = [] → Q .normal a w) ∧
      ∀ i, i ∈ Region.ready md ops l → wpOp P ops Q i (fun a' w' => T w' ∧ ((l.setIfInBounds i true).getD k true = false → S w') ∧ anyT P md ops Q k S T n (l.setIfInBounds i true) a' w') a w

theorem anyT_plain (n : Nat) : ∀ (l : Array Bool) (a : Act) (w : World), anyT P md ops Q k S T n l a w → wpAny P md ops Q n l a w := by
  induction n with
  | zero => exact fun _ _ _ h => h
  | succ n ih => exact fun l a w h => ⟨h.1, fun i hi => wpOp_mono (fun a' w' h' => ih _ a' w' h'.2.2) (h.2 i hi)⟩

theorem anyT_first {i : Nat} {o : Oper} {v : Value} (hi : ops[i]? = some o) (hsel : ∀ (j : Nat) (o : Oper) cs b, ops[j]? = some o → o.op ≠ .select cs b)
    (hQ : ∀ c a w, Q (.panic c) (a.put o.dst v) w → Q (.panic c) a w) {N : Nat} (hw : waits md ops N k i = true) (n : Nat) :
    ∀ (l : Array Bool) (a : Act) (w : World), closedL md ops l →
      (∀ j oj, ops[j]? = some oj → j ≠ i → l.getD j true = false → (∀ e ∈ oj.after, Region.binds md e = true → e.on ≠ i) → o.apart ops oj = true) →
      i ∈ Region.ready md ops l → YieldsIf P ops S o v a → S w → T w → l.getD k true = false →
      anyT P md ops Q k S T n (l.setIfInBounds i true) (a.put o.dst v) w → anyT P md ops Q k S T (n + 1) l a w := by
  induction n with
  | zero =>
    intro l a w _ _ hr hy hS hT _ H
    refine ⟨fun h => (by rw [h] at hr; cases hr), fun j hj => ?_⟩
    by_cases hji : j = i
    · subst hji
      exact hy.wpOp hi hS ⟨hT, fun _ => hS, H⟩
    · have h := ready_mono hj hji
      rw [H.1] at h
      cases h
  | succ n ih =>
    intro l a w hc hfree hr hy hS hT hk H
    refine ⟨fun h => (by rw [h] at hr; cases hr), fun j hj => ?_⟩
    by_cases hji : j = i
    · subst hji
      exact hy.wpOp hi hS ⟨hT, fun _ => hS, H⟩
    have hjk : j ≠ k := fun e => waits_unready hc hw hr (e ▸ hj)
    obtain ⟨hjun, oj, hoj, hall⟩ := mem_ready.1 hj
    have hnot : ∀ e ∈ oj.after, Region.binds md e = true → e.on ≠ i := by
      intro e he hb heq
      have h1 := hall e he hb
      have h0 := (mem_ready.1 hr).1
      rw [heq] at h1
      rcases Nat.lt_or_ge i l.size with h' | h'
      · simp [h'] at h0 h1
        rw [h0] at h1
        cases h1
      · simp [Array.getElem?_eq_none h'] at h1
    have h2 := wpOp_putIf hoj (hfree j oj hoj hji hjun hnot) (fun cs b => hsel i o cs b hi) (fun cs b => hsel j oj cs b hoj) hQ hy (H.2 j (ready_mono hj hji))
    have hk1 : (l.setIfInBounds j true).getD k true = false := by rw [Go.getD_set_ne true hjk]; exact hk
    have hik : i ≠ k := fun e => waits_unready hc hw hr (e ▸ hr)
    have hk2 : ((l.setIfInBounds i true).setIfInBounds j true).getD k true = false := by rw [Go.getD_set_ne true hjk, Go.getD_set_ne true hik]; exact hk
    have hfree' : ∀ m om, ops[m]? = some om → m ≠ i → (l.setIfInBounds j true).getD m true = false → (∀ e ∈ om.after, Region.binds md e = true → e.on ≠ i) → o.apart ops om = true := by
      intro m om hm hmi hun hno
      refine hfree m om hm hmi ?_ hno
      by_cases e : j = m
      · subst e; exact hjun
      · rw [Go.getD_set_ne true e] at hun; exact hun
    refine wpOp_mono (fun a' w' h3 => ?_) h2
    obtain ⟨y3, t3, s3, r3⟩ := h3
    refine ⟨t3, fun _ => s3 hk2, ih _ a' w' (closedL_set hc hj) hfree' (ready_mono hr (Ne.symm hji)) y3 (s3 hk2) t3 hk1 ?_⟩
    rw [Array.setIfInBounds_comm _ _ hji]
    exact r3
/-- What is held throughout needs no one to wait. -/
theorem anyT_firstT {i : Nat} {o : Oper} {v : Value} (hi : ops[i]? = some o) (hik : i ≠ k) (hsel : ∀ (j : Nat) (o : Oper) cs b, ops[j]? = some o → o.op ≠ .select cs b)
    (hQ : ∀ c a w, Q (.panic c) (a.put o.dst v) w → Q (.panic c) a w) (n : Nat) :
    ∀ (l : Array Bool) (a : Act) (w : World),
      (∀ j oj, ops[j]? = some oj → j ≠ i → l.getD j true = false → (∀ e ∈ oj.after, Region.binds md e = true → e.on ≠ i) → o.apart ops oj = true) →
      i ∈ Region.ready md ops l → YieldsIf P ops T o v a → T w → (l.getD k true = false → S w) →
      anyT P md ops Q k S T n (l.setIfInBounds i true) (a.put o.dst v) w → anyT P md ops Q k S T (n + 1) l a w := by
  induction n with
  | zero =>
    intro l a w _ hr hy hT hS H
    refine ⟨fun h => (by rw [h] at hr; cases hr), fun j hj => ?_⟩
    by_cases hji : j = i
    · subst hji
      exact hy.wpOp hi hT ⟨hT, fun e => hS (by rw [Go.getD_set_ne true hik] at e; exact e), H⟩
    · have h := ready_mono hj hji
      rw [H.1] at h
      cases h
  | succ n ih =>
    intro l a w hfree hr hy hT hS H
    refine ⟨fun h => (by rw [h] at hr; cases hr), fun j hj => ?_⟩
    by_cases hji : j = i
    · subst hji
      exact hy.wpOp hi hT ⟨hT, fun e => hS (by rw [Go.getD_set_ne true hik] at e; exact e), H⟩
    obtain ⟨hjun, oj, hoj, hall⟩ := mem_ready.1 hj
    have hnot : ∀ e ∈ oj.after, Region.binds md e = true → e.on ≠ i := by
      intro e he hb heq
      have h1 := hall e he hb
      have h0 := (mem_ready.1 hr).1
      rw [heq] at h1
      rcases Nat.lt_or_ge i l.size with h' | h'
      · simp [h'] at h0 h1
        rw [h0] at h1
        cases h1
      · simp [Array.getElem?_eq_none h'] at h1
    have h2 := wpOp_putIf hoj (hfree j oj hoj hji hjun hnot) (fun cs b => hsel i o cs b hi) (fun cs b => hsel j oj cs b hoj) hQ hy (H.2 j (ready_mono hj hji))
    have hfree' : ∀ m om, ops[m]? = some om → m ≠ i → (l.setIfInBounds j true).getD m true = false → (∀ e ∈ om.after, Region.binds md e = true → e.on ≠ i) → o.apart ops om = true := by
      intro m om hm hmi hun hno
      refine hfree m om hm hmi ?_ hno
      by_cases e : j = m
      · subst e; exact hjun
      · rw [Go.getD_set_ne true e] at hun; exact hun
    refine wpOp_mono (fun a' w' h3 => ?_) h2
    obtain ⟨y3, t3, s3, r3⟩ := h3
    have hS3 : (l.setIfInBounds j true).getD k true = false → S w' := fun e => s3 (by
      rw [Array.setIfInBounds_comm _ _ (Ne.symm hji), Go.getD_set_ne true hik]
      exact e)
    refine ⟨t3, hS3, ih _ a' w' hfree' (ready_mono hr (Ne.symm hji)) y3 t3 hS3 ?_⟩
    rw [Array.setIfInBounds_comm _ _ hji]
    exact r3
theorem anyT_take {i : Nat} {o : Oper} {v : Value} {n : Nat} {l : Array Bool} {a : Act} {w : World} (hi : ops[i]? = some o)
    (hs : Region.noSelect ops = true) (hf : Region.free md ops l i = true) (hr : (Region.ready md ops l).contains i = true) {N : Nat} (hw : waits md ops N k i = true) (hc : closedB md ops l = true) (hk : l.getD k true = false)
    (hQ : ∀ c a w, Q (.panic c) (a.put o.dst v) w → Q (.panic c) a w) (hy : YieldsIf P ops S o v a) (hS : S w) (hT : T w)
    (h : anyT P md ops Q k S T n (l.setIfInBounds i true) (a.put o.dst v) w) : anyT P md ops Q k S T (n + 1) l a w :=
  anyT_first hi (Region.noSelect_spec hs) hQ hw n l a w (closedB_spec hc) (Region.free_spec hi hf) (by simpa using hr) hy hS hT hk h
theorem anyT_takeT {i : Nat} {o : Oper} {v : Value} {n : Nat} {l : Array Bool} {a : Act} {w : World} (hi : ops[i]? = some o) (hik : i ≠ k)
    (hs : Region.noSelect ops = true) (hf : Region.free md ops l i = true) (hr : (Region.ready md ops l).contains i = true)
    (hQ : ∀ c a w, Q (.panic c) (a.put o.dst v) w → Q (.panic c) a w) (hy : YieldsIf P ops T o v a) (hT : T w) (hS : l.getD k true = false → S w)
    (h : anyT P md ops Q k S T n (l.setIfInBounds i true) (a.put o.dst v) w) : anyT P md ops Q k S T (n + 1) l a w :=
  anyT_firstT hi hik (Region.noSelect_spec hs) hQ n l a w (Region.free_spec hi hf) (by simpa using hr) hy hT hS h
theorem anyT_one {i : Nat} {o : Oper} {n : Nat} {l : Array Bool} {a : Act} {w : World} (hr : Region.ready md ops l = [i]) (ho : ops[i]? = some o)
    (h : ∀ K' : Act → World → Prop, Shut (∀ a w, T w → ((l.setIfInBounds i true).getD k true = false → S w) → anyT P md ops Q k S T n (l.setIfInBounds i true) a w → K' a w) → if Region.wanted o (yielded ops a.tmps) = true then Oper.wp P o a w K' Q else K' (a.put o.dst undef) w) :
    anyT P md ops Q k S T (n + 1) l a w := by
  refine ⟨fun h0 => (by rw [hr] at h0; cases h0), fun j hj => ?_⟩
  rw [hr] at hj
  rcases List.mem_singleton.1 hj with rfl
  exact wpOp_step ho (fun K' hK => h K' (fun a w hT hS hW => hK a w ⟨hT, hS, hW⟩))
theorem anyT_done {l : Array Bool} {a : Act} {w : World} (hr : Region.ready md ops l = []) (h : Q .normal a w) (n : Nat) : anyT P md ops Q k S T n l a w := by
  cases n with
  | zero => exact ⟨hr, h⟩
  | succ n => exact ⟨fun _ => h, fun i hi => by rw [hr] at hi; cases hi⟩
end
end Go.Proofs.YtlmfhopifggeaaaDoor
namespace Go.Proofs.YtlmfhopifggeaaaDoor
open Go.RowKit

set_option maxHeartbeats 400000 in
/-- '[]api.Op{x}' in a drawn region. -/
theorem stepK_buildP {ops : Array Oper} {o : Oper} {a : Act} {K : Act → World → Prop} {Q : Exit → Act → World → Prop} {E : Prop} {w : World} (hgd : o.guard = none) (x : Operand) (ho : o.op = .buildSlice 32 1 #[(0, x)]) (k0 k1 : Int) (a1 : Option Addr) (n1 c1 : Nat) (k3 k4 : Int) (a2 : Option Addr) (n2 c2 : Nat)
    (hx : a.eval x = .agg #[.int .i64 k0, .int .i64 k1, .slice a1 n1 c1, .int .i64 k3, .int .i64 k4, .slice a2 n2 c2]) (h : K (a.put o.dst (.slice (some ⟨w.heap.size, 0, none⟩) 1 1)) (w.alloc (.cells #[.int .i64 k0, .int .i64 k1, .slice a1 n1 c1, .int .i64 k3, .int .i64 k4, .slice a2 n2 c2] 46))) :
    if Region.wanted o (yielded ops a.tmps) = true then Oper.wp Tryd.prog o a w K Q else E := by
  have hw : Region.wanted o (yielded ops a.tmps) = true := by simp [Region.wanted, hgd]
  rw [if_pos hw]
  obtain ⟨od, oo, ot, opp, oa, og⟩ := o
  simp only at ho
  subst ho
  have HH := Lib.hid h
  clear h
  unfold Oper.wp execOp
  simp only [hx, List.map_toArray, List.map_cons, List.map_nil]
  go_simp
  exact HH.out

/-- slices.Clone of ints: in a block of its own. -/
theorem clone_own (ao : Option Addr) (n c : Nat) (l : List Int) (w : World) (h : IntsAt w ao n l) (hb : n * 8 ≤ 140737488355328) :
    Calls Tryd.prog 55 #[.slice ao n c] w fun e w' => ∃ a' c', e = .returned (.slice a' n c') ∧ Iow w' w.heap.size a' n c' l ∧ Ext w w' := by
  have fin : ∀ {v' : Value} {w' : World} {xs : List Value}, w'.ownsRow w.heap.size 3 1 v' n xs → xs = iC l → ∃ a' c', v' = .slice a' n c' ∧ Iow w' w.heap.size a' n c' l := fun h1 h2 => by
    subst h2
    exact io_of_own h1
  cases ao with
  | none =>
    have hn : n = 0 := by
      rcases h.2 with h0 | ⟨b, o, e, _⟩
      · exact h0
      · cases e
    subst hn
    refine (Tryd.slices_Clone_int_nil 0 c w).mono ?_
    rintro e w' ⟨rfl, rfl⟩
    have hl : l = [] := List.length_eq_zero_iff.1 h.1
    exact ⟨none, 0, rfl, by rw [hl]; exact ⟨rfl, Or.inl ⟨rfl, rfl⟩⟩, Ext.refl _⟩
  | some ad =>
    by_cases hn : n = 0
    · subst hn
      have hl : l = [] := List.length_eq_zero_iff.1 h.1
      refine (Tryd.slices_Clone_int_zero ad c w).mono ?_
      rintro e w' ⟨v', rfl, h1, _, h3⟩
      obtain ⟨a', c', rfl, h5⟩ := fin h1 (by rw [hl]; rfl)
      exact ⟨a', c', rfl, h5, h3⟩
    · obtain ⟨b, o, e, hbl, hc⟩ := h.at (by omega)
      cases e
      refine (Tryd.slices_Clone_int b o n c l w (by rw [h.1]; exact Nat.le_refl _) hb (fun j hj => hc j (by rw [h.1] at hj; exact hj))).mono ?_
      rintro e w' ⟨v', rfl, h1, _, h3⟩
      obtain ⟨a', c', rfl, h5⟩ := fin h1 (by rw [List.take_of_length_le (by rw [h.1]; exact Nat.le_refl _)]; rfl)
      exact ⟨a', c', rfl, h5, h3⟩
theorem Iow.addr' {w : World} {base n c : Nat} {a : Option Addr} {l : List Int} (h : Iow w base a n c l) (hn : 0 < n) : ∃ g, a = some ⟨g, 0, none⟩ := by
  rcases h.2 with ⟨e, _⟩ | ⟨g, cap, cur, hv, _⟩
  · injection e with _ e _
    omega
  · injection hv with e _ _
    exact ⟨g, e⟩
theorem Iow.cell' {w : World} {base g n c : Nat} {l : List Int} (h : Iow w base (some ⟨g, 0, none⟩) n c l) (i : Nat) (hi : i < n) : w.cell? ⟨g, i, none⟩ = some (.int .i64 (l.getD i 0)) ∧ w.frozen? ⟨g, i, none⟩ = false := by
  obtain ⟨_, _, h3, _⟩ := h.ints
  obtain ⟨b, o, e, _, hc⟩ := h3.at (by omega)
  cases e
  have h1 := hc i hi
  rw [Nat.zero_add] at h1
  refine ⟨h1, ?_⟩
  rcases h.2 with ⟨e, _⟩ | ⟨g', cap, cur, hv, _, hg, _⟩
  · cases e
  · injection hv with e _ _
    cases e
    exact frozen_of_row w g i _ _ hg
theorem Iow.put' {w : World} {base g n c i : Nat} {l : List Int} (h : Iow w base (some ⟨g, 0, none⟩) n c l) (_hi : i < n) (v : Int) : Iow (w.setCell ⟨g, i, none⟩ (.int .i64 v)) base (some ⟨g, 0, none⟩) n c (l.set i v) := by
  have hl : l.length = n := by have := h.1; simpa [iC] using this
  refine ⟨by unfold iC; rw [List.length_map, List.length_set, hl, Nat.mul_one], ?_⟩
  rcases h.2 with ⟨e, _⟩ | ⟨g', cap, cur, hv, hb, hg, hnc, hcm, hsz, htk⟩
  · cases e
  · injection hv with e1 _ e3
    cases e1
    subst e3
    refine Or.inr ⟨g, c, cur.setIfInBounds i (.int .i64 v), rfl, hb, heap_setCell_same w g i _ _ (.int .i64 v) hg, hnc, hcm, by rw [Array.size_setIfInBounds]; exact hsz, ?_⟩
    rw [Array.toList_setIfInBounds, List.take_set, htk]
    unfold iC
    rw [List.map_set]

/-- A block of operations, not the mover's, is written; what is newer may be anything. -/
theorem MvA.frame {w0 u w' : World} {base Bm gs Q H : Nat} {W : List Nat} {st : List Int} {v : Value} {ops : List Gop} (h : MvA w0 u base Bm gs Q W st v ops) (hE : Ext w0 w') (hsz : u.heap.size ≤ w'.heap.size) (hb : ∀ k, k < u.heap.size → k ≠ H → w'.heap[k]? = u.heap[k]?) {cs : Array Value} {fr : Nat × Nat} (hH : u.heap[H]? = some (.cells cs 46 fr)) (hv : v.ownBlock ≠ some H) :
    MvA w0 w' base Bm gs Q W st v ops ∧ ∃ xs, OpsX w' base v ops xs ∧ ∀ (i : Nat) (x : Value) (k : Nat), xs[i]? = some x → x.ownBlock = some k → k < u.heap.size := by
  obtain ⟨xs, hX⟩ := h.ops
  have hne : ∀ {k : Nat} {c : Array Value} {T : TypeId} {f : Nat × Nat}, u.heap[k]? = some (.cells c T f) → T ≠ 46 → k ≠ H := fun hk hT e => by
    rw [e, hH] at hk
    injection hk with hk
    injection hk with _ hk _
    exact hT hk.symm
  have hX' : OpsX w' base v ops xs := hX.keep (fun g hg => hb g (h.older hg).2.1 (fun e => hv (e ▸ hg))) (fun b cur f hbb => hb b (Array.getElem?_eq_some_iff.1 hbb).1 (hne hbb (by decide)))
  exact ⟨⟨hE, h.hB, h.hBb, h.hg, h.hgb, Nat.le_trans h.hs hsz, h.wl, h.wu, (hb _ h.lt (hne h.row (by decide))).trans h.row, (hb _ h.slt (hne h.srow (by decide))).trans h.srow, h.len, ⟨xs, hX'⟩⟩, xs, hX', hX.old⟩

set_option maxRecDepth 100000 in
/-- One more operation, its lists newer than B. -/
theorem mv_append2 {w0 wC : World} {base Bm gs Q B : Nat} {W : List Nat} {st : List Int} {v : Value} {ops : List Gop} {xs : List Value} (hC : MvA w0 wC base Bm gs Q W st v ops) (hX : OpsX wC base v ops xs) (hold : ∀ (i : Nat) (x : Value) (k : Nat), xs[i]? = some x → x.ownBlock = some k → k < B) (hbB : base ≤ B) (ty : TypeId) {g : Gop} {a1 : Option Addr} {n1 c1 : Nat} {a2 : Option Addr} {n2 c2 : Nat} (hO : OpN wC B g a1 n1 c1 a2 n2 c2) (ad : Addr)
    (k2 : ∀ j u, ([.int .i64 g.kind, .int .i64 g.k, .slice a1 n1 c1, .int .i64 g.q, .int .i64 g.bit, .slice a2 n2 c2] : List Value)[j]? = some u → wC.cell? (ad.add j) = some u) (hm : ops.length ≤ 1000000) :
    ∃ a' c' w1, (Builtin.append_ #[32, 32] ty #[v, .slice (some ad) 1 1]).run Tryd.prog wC = .ok (.slice a' (ops.length + 1) c') w1 ∧ w1.heap[Bm]? = wC.heap[Bm]? ∧ (∀ k, k < wC.heap.size → v.ownBlock ≠ some k → w1.heap[k]? = wC.heap[k]?) ∧
      MvA w0 (w1.setCell ⟨Bm, 13, none⟩ (.slice a' (ops.length + 1) c')) base Bm gs Q W st (.slice a' (ops.length + 1) c') (ops ++ [g]) ∧ MvX Bm gs v (.slice a' (ops.length + 1) c') wC (w1.setCell ⟨Bm, 13, none⟩ (.slice a' (ops.length + 1) c')) := by
  obtain ⟨i0, hi, hz0, hz1, hz2⟩ := opInfo
  obtain ⟨v', w1, e1, e2, e3, _, e5⟩ := run_append_own_at (P := Tryd.prog) wC base 32 ty 46 i0 _ 6 80 Tryd.underlying32 hi hz0 hz1 hz2 rfl (by decide) v ops.length xs hX.own ad 1 1 _ rfl k2 (one_op _ _ _ _ _ _ _ _ _ _) (by unfold maxLen; omega) (by omega) hC.hs
  obtain ⟨a', c', hv'⟩ : ∃ a' c', v' = .slice a' (ops.length + 1) c' := by
    rcases e2.2 with ⟨rfl, h0⟩ | ⟨g, cap, cur, rfl, _⟩
    · omega
    · exact ⟨_, _, rfl⟩
  subst hv'
  have hkd : ∀ k, v.ownBlock = some k → base ≤ k ∧ k < wC.heap.size ∧ ∃ cs fr, wC.heap[k]? = some (.cells cs 46 fr) := fun k hk => hC.older hk
  have hbk : w1.heap[Bm]? = wC.heap[Bm]? := e3.block Bm hC.lt (fun e => by
    obtain ⟨_, _, cs, fr, hr⟩ := hkd Bm e.symm
    rw [hC.row] at hr
    injection hr with hr
    injection hr with _ hr _
    exact absurd hr (by decide))
  have hOn := only1 w1 Bm 13 (.slice a' (ops.length + 1) c')
  have hrow1 : w1.heap[Bm]? = some (.cells (mvC W (.slice (some ⟨gs, 0, none⟩) Q Q) v) 84 (0, 0)) := hbk.trans hC.row
  have hk : ∀ (b : Nat) (cur : Array Value) (fr : Nat × Nat), wC.heap[b]? = some (.cells cur 3 fr) → (w1.setCell ⟨Bm, 13, none⟩ (.slice a' (ops.length + 1) c')).heap[b]? = wC.heap[b]? := by
    intro b cur fr hb
    have hbl := (Array.getElem?_eq_some_iff.1 hb).1
    rw [hOn.block b (fun e => by
      rw [e, hC.row] at hb
      injection hb with hb
      injection hb with _ hb _
      exact absurd hb (by decide))]
    exact e3.block b hbl (fun e => by
      obtain ⟨_, _, cs, fr', hr⟩ := hkd b e.symm
      rw [hb] at hr
      injection hr with hr
      injection hr with _ hr _
      exact absurd hr (by decide))
  have hsz : wC.heap.size ≤ (w1.setCell ⟨Bm, 13, none⟩ (.slice a' (ops.length + 1) c')).heap.size := by rw [hOn.size]; exact e3.size
  refine ⟨a', c', w1, e1, hbk, fun k hk1 h3 => e3.block k hk1 (fun e => h3 e.symm), ⟨?_, hC.hB, hC.hBb, hC.hg, hC.hgb, Nat.le_trans hC.hs hsz, hC.wl, hC.wu, ?_, ?_, hC.len, ?_⟩, ?_⟩
  · have hx1 : Ext w0 w1 := grown_ext hC.ext e3 (fun k hk => by have := (hkd k hk).1; have := hC.hB; have := hC.hBb; omega)
    exact ext_only' hx1 hOn hC.hB
  · have := heap_setCell_same w1 Bm 13 _ _ (.slice a' (ops.length + 1) c') hrow1
    rw [← mvC_set hC.wl]
    simpa using this
  · exact (hk gs _ _ hC.srow).trans hC.srow
  · refine ⟨_, OpsX.snoc hX ?_ hk hold hbB (hO.keep hk)⟩
    refine own_keep e2 (fun b cur hb hbc => hOn.block b ?_)
    rintro rfl
    rw [hrow1] at hbc
    injection hbc with hbc
    injection hbc with _ hbc _
    exact absurd hbc (by decide)
  · refine ⟨hsz, fun k hk1 h1 _ h3 => ?_, fun k hk1 => ?_⟩
    · rw [hOn.block k h1]
      exact e3.block k hk1 (fun e => h3 e.symm)
    · rcases e5 with e | e
      · exact Or.inl (by rw [← e]; exact hk1)
      · rw [e] at hk1
        injection hk1 with hk1
        exact Or.inr (by omega)
end Go.Proofs.YtlmfhopifggeaaaDoor
namespace Go.Proofs.YtlmfhopifggeaaaDoor
open Go.RowKit

/-- Where a qubit stands. -/
def stA (st : List Int) (c : Int) : Int := st.getD c.toNat 0
/-- An operation where the qubits stand. -/
def mapO (st : List Int) (g : Gop) : Gop := ⟨g.kind, g.k, g.ctl.map (stA st), if g.kind = 1 then g.q else stA st g.q, g.bit, g.cnd⟩
/-- The first of them are turned. -/
def mpT (f : Int → Int) (st : List Int) (i : Nat) : List Int := (st.take i).map f ++ st.drop i
theorem mpT_zero (f : Int → Int) (st : List Int) : mpT f st 0 = st := by unfold mpT; simp
theorem mpT_end (f : Int → Int) (st : List Int) {i : Nat} (h : st.length ≤ i) : mpT f st i = st.map f := by
  unfold mpT
  rw [List.take_of_length_le h, List.drop_eq_nil_of_le h, List.append_nil]
theorem mpT_at (f : Int → Int) (st : List Int) {i : Nat} (h : i < st.length) : (mpT f st i).getD i 0 = st.getD i 0 := by
  unfold mpT
  rw [List.getD_eq_getElem?_getD, List.getElem?_append_right (by rw [List.length_map, List.length_take]; omega), List.length_map, List.length_take, show i - min i st.length = 0 by omega, List.getElem?_drop, Nat.add_zero, List.getD_eq_getElem?_getD]
theorem mpT_set (f : Int → Int) (st : List Int) {i : Nat} (h : i < st.length) : (mpT f st i).set i (f (st.getD i 0)) = mpT f st (i + 1) := by
  unfold mpT
  have hl : ((st.take i).map f).length = i := by rw [List.length_map, List.length_take]; omega
  rw [List.set_append_right _ _ (by omega), hl, Nat.sub_self, List.drop_eq_getElem_cons h, List.set_cons_zero, List.take_add_one, List.getElem?_eq_getElem h, Option.toList_some, List.map_append, List.append_assoc, List.getD_eq_getElem?_getD, List.getElem?_eq_getElem h]
  rfl

set_option maxRecDepth 100000 in
set_option maxHeartbeats 8000000 in
theorem do_any (w0 w : World) (base Bm gs Q M : Nat) (W : List Nat) (st : List Int) (v : Value) (ops : List Gop) (kd k : Int) (a1 : Option Addr) (n1 c1 : Nat) (q : Nat) (bt : Int) (a2 : Option Addr) (n2 c2 : Nat) (ctl cnd : List Int) (h : MvA w0 w base Bm gs Q W st v ops) (hW : WebOk W M) (hc : Conn W M) (hS : StOk st Q M) (hL : OpL w0 ⟨kd, k, ctl, (q : Int), bt, cnd⟩ a1 n1 c1 a2 n2 c2)
    (hn1 : n1 ≤ 1) (hctl : ∀ c ∈ ctl, ∃ x : Nat, c = (x : Int) ∧ x < Q ∧ x ≠ q) (hq : q < Q) (hn2 : n2 ≤ 24) (hQ : Q ≤ 12) (hT : BruM w0) (hl : ops.length ≤ 700000) :
    Calls Tryd.prog 36 #[.pointer (some ⟨Bm, 0, none⟩), .agg #[.int .i64 kd, .int .i64 k, .slice a1 n1 c1, .int .i64 (q : Int), .int .i64 bt, .slice a2 n2 c2]] w fun e w' => e = .returned (.tuple #[]) ∧ ∃ v' st' mv j, Mvs W st mv st' j ∧ j ≤ M - 2 ∧ (ctl = [] → j = 0) ∧ (∀ c ∈ ctl, lk W (stA st' c).toNat (stA st' (q : Int)).toNat = true) ∧ StOk st' Q M ∧ MvA w0 w' base Bm gs Q W st' v' (ops ++ (mv ++ [mapO st' ⟨kd, k, ctl, (q : Int), bt, cnd⟩])) ∧ MvX Bm gs v v' w w' := by
  obtain ⟨H, hH⟩ : ∃ H, w.heap.size = H := ⟨_, rfl⟩
  obtain ⟨u1, hu1⟩ : ∃ u1, w.alloc (.cells #[.int .i64 kd, .int .i64 k, .slice a1 n1 c1, .int .i64 (q : Int), .int .i64 bt, .slice a2 n2 c2] 46) = u1 := ⟨_, rfl⟩
  have E1 : Ext w u1 := by rw [← hu1]; exact ext_al _ _
  have b1 : OpBx u1 H kd k a1 n1 c1 (q : Int) bt a2 n2 c2 := by rw [← hu1, ← hH]; exact opbx_new w kd k a1 n1 c1 (q : Int) bt a2 n2 c2
  have hBH : Bm ≠ H ∧ gs ≠ H := ⟨by have := h.lt; omega, by have := h.slt; omega⟩
  have hvH : v.ownBlock ≠ some H := fun e => by have := (h.older e).2.1; omega
  have HA := Lib.hid (h.grow E1); have HX0 := Lib.hid (MvX.of_ext (Bm := Bm) (gs := gs) v E1); have HW := Lib.hid hW; have Hc := Lib.hid hc; have HS := Lib.hid hS; have HL := Lib.hid hL; have Hn1 := Lib.hid hn1; have Hctl := Lib.hid hctl; have Hq := Lib.hid hq; have Hn2 := Lib.hid hn2; have HQ := Lib.hid hQ; have HT := Lib.hid hT; have Hl := Lib.hid hl
  have HBH := Lib.hid hBH; have HvH := Lib.hid hvH; have HH := Lib.hid hH; have HU1 := Lib.hid hu1; have Hb1 := Lib.hid b1
  have HwH := Lib.hid (show w0.heap.size ≤ H by have := h.ext.size; omega)
  have Hcl := Lib.hid (show ctl.length = n1 from hL.i1.1); have HwE := Lib.hid hH
  have d2 := b1.x2
  clear h hW hc hS hL hn1 hctl hq hn2 hQ hT hl hBH hvH hH hu1 E1 b1
  go_enter Tryd.func36, Tryd.ntmps36
  go_upto_region 1 with fail
  rw [HU1.out, HH.out]
  go_wp2_with fail
  clear d2
  go_loopg [5, 11] n1 (fun kk _ s11 wr => ∃ (i : Nat) (v' : Value) (st' : List Int) (mv : List Gop) (j : Nat), s11 = .int .i64 (i : Int) ∧ i ≤ n1 ∧ n1 - i = kk ∧ Mvs W st mv st' j ∧ j ≤ M - 2 ∧ (i = 0 → j = 0 ∧ mv = [] ∧ st' = st) ∧ (∀ c ∈ ctl.take i, lk W (stA st' c).toNat (stA st' (q : Int)).toNat = true) ∧ StOk st' Q M ∧ MvA w0 wr base Bm gs Q W st' v' (ops ++ mv) ∧ MvX Bm gs v v' u1 wr)
  case atStart => exact ⟨0, v, st, [], 0, rfl, Nat.zero_le _, rfl, Mvs.nil st, Nat.zero_le _, fun _ => ⟨rfl, rfl, rfl⟩, fun c hc => by simp at hc, HS.out, by rw [List.append_nil]; exact HA.out, MvX.refl _ _ _ _⟩
  case round =>
    clear HA HS
    obtain ⟨i, v1, st1, mv, j, rfl, hi, hk, hM, hj, hz, hlk, hS, hA, hX⟩ := hrel
    have b2 : OpBx wr H kd k a1 n1 c1 (q : Int) bt a2 n2 c2 := ⟨(hX.block H Hb1.out.lt (fun e => HBH.out.1 e.symm) (fun e => HBH.out.2 e.symm) HvH.out).trans Hb1.out.row⟩
    have hv1 : v1.ownBlock ≠ some H := fun e => by
      rcases hX.own H e with e | e
      · exact HvH.out e
      · have := Hb1.out.lt; omega
    by_cases hin : i = n1
    rotate_left 1
    · have hlt : i < n1 := by omega
      have hi0 : i = 0 := by have := Hn1.out; omega
      obtain ⟨hj0, hmv, hst⟩ := hz hi0
      have q1 : (i : Int) < (n1 : Int) := by omega
      have q0 : (0 : Int) ≤ (i : Int) := by omega
      have wk : IntKind.i64.wrap ((i : Int) + 1) = ((i + 1 : Nat) : Int) := by rw [IntKind.wrap_i64]; have := Hn1.out; omega
      obtain ⟨cb, co, rfl, hcl, hcell⟩ := (HL.out.i1.ext hA.ext).at (by omega)
      have ci := hcell i hlt
      have hil : i < ctl.length := by have := Hcl.out; omega
      obtain ⟨c, hcc⟩ : ∃ c, ctl.getD i 0 = c := ⟨_, rfl⟩
      have hcm : c ∈ ctl := by rw [← hcc, List.getD_eq_getElem?_getD, List.getElem?_eq_getElem hil]; exact List.getElem_mem hil
      obtain ⟨x, rfl, hxQ, hxq⟩ := Hctl.out c hcm
      simp only at ci
      rw [hcc] at ci
      have hone : ctl.take (i + 1) = [(x : Int)] := by
        rw [hi0]
        have h0 : 0 < ctl.length := by omega
        rw [List.take_add_one, List.take_zero, List.getElem?_eq_getElem h0]
        rw [hi0, List.getD_eq_getElem?_getD, List.getElem?_eq_getElem h0] at hcc
        simp only [Option.getD_some] at hcc
        rw [hcc]; rfl
      rw [hmv, List.append_nil] at hA
      rw [hst] at hA hS
      have HBr := Lib.hid (bring_any w0 wr base Bm gs Q M W st v1 ops x q hA HW.out Hc.out hS hxQ Hq.out hxq HQ.out HT.out (by have := Hl.out; omega))
      have d3 := b2.x3
      have Hk := Lib.hid hk; have Hlt := Lib.hid hlt; have HX := Lib.hid hX; have Hone := Lib.hid hone
      clear hi hk hM hj hz hlk hS hA hX hi0 hj0 hmv hst hcell hcl hil hcm hcc hlt hin b2 hv1 hone
      go_wp2_with fail
      refine HBr.out.mono ?_
      rintro e w2 ⟨rfl, v2, st2, g2, k2, hM2, hk2, hlk2, hS2, hA2, hX2⟩
      have HM2 := Lib.hid hM2; have Hk2 := Lib.hid hk2; have Hlk2 := Lib.hid hlk2; have HS2 := Lib.hid hS2; have HA2 := Lib.hid hA2; have HX2 := Lib.hid (HX.out.trans hX2)
      clear hM2 hk2 hlk2 hS2 hA2 hX2 HBr ci d3
      go_wp2_with fail
      go_roundg (n1 - (i + 1))
      case measure => have := Hk.out; have := Hlt.out; omega
      case rel => exact ⟨i + 1, v2, st2, g2, k2, rfl, Hlt.out, rfl, HM2.out, Hk2.out, fun e => by omega, fun c hc => by
        rw [Hone.out, List.mem_singleton] at hc
        subst hc
        exact Hlk2.out, HS2.out, HA2.out, HX2.out⟩
    have q1 : ¬ (i : Int) < (n1 : Int) := by omega
    have HM := Lib.hid hM; have Hj := Lib.hid hj; have HS := Lib.hid hS; have HA := Lib.hid hA; have HX := Lib.hid (HX0.out.trans hX)
    have Hjz := Lib.hid (show ctl = [] → j = 0 from fun e => (hz (by have h9 := Hcl.out; rw [e] at h9; rw [hin]; exact h9.symm)).1)
    have Hlk := Lib.hid (show ∀ c ∈ ctl, lk W (stA st1 c).toNat (stA st1 (q : Int)).toNat = true from fun c hc => hlk c (by rw [List.take_of_length_le (by have := Hcl.out; omega)]; exact hc))
    have Hb2 := Lib.hid b2; have Hv1 := Lib.hid hv1
    obtain ⟨q2, hq2⟩ : ∃ q2 : Int, (if kd = 1 then (q : Int) else stA st1 (q : Int)) = q2 := ⟨_, rfl⟩
    have Hq2 := Lib.hid hq2
    have d0 := b2.x0; have d3 := b2.x3; have e3 := b2.f 3; have s12 := hA.xs
    have sq := hA.at q Hq.out
    have p0 : (0 : Int) ≤ (q : Int) := by omega
    have p1 : (q : Int) < (Q : Int) := by have := Hq.out; omega
    obtain ⟨sv, hsv⟩ : ∃ sv, st1.getD q 0 = sv := ⟨_, rfl⟩
    rw [hsv] at sq
    have Hsv := Lib.hid (show stA st1 (q : Int) = sv by unfold stA; rw [Int.toNat_natCast]; exact hsv)
    clear hi hk hM hj hz hlk hS hA hX hv1 hin hq2 hsv b2 HX0 HU1 HH
    obtain ⟨R0, hR0⟩ : ∃ R0 : World, R0 = wr := ⟨_, rfl⟩
    subst hR0
    go_upto_if 23 with fail
    go_cut [3] from 21 to 32 (fun s3 wx => s3 = .pointer (some ⟨H, 0, none⟩) ∧ OpBx wx H kd k a1 n1 c1 q2 bt a2 n2 c2 ∧ Only H R0 wx)
    case first =>
      by_cases hk : kd = 1
      · subst hk
        have hq9 : q2 = (q : Int) := by rw [← Hq2.out, if_pos rfl]
        subst hq9
        go_wp2_with fail
        go_meet
        exact ⟨rfl, Hb2.out, Only.refl _ _⟩
      · have hb := nt hk
        have hq9 : q2 = sv := by rw [← Hq2.out, if_neg hk, Hsv.out]
        subst hq9
        have Hnew := Lib.hid (show OpBx (R0.setCell ⟨H, 3, none⟩ (.int .i64 q2)) H kd k a1 n1 c1 q2 bt a2 n2 c2 from ⟨heap_setCell_same R0 H 3 _ _ (.int .i64 q2) Hb2.out.row⟩)
        clear hk
        go_upto_region 7 with fail
        go_region
        go_wp2_with fail
        go_meet
        exact ⟨rfl, ⟨Hnew.out.row⟩, (only1 R0 H 3 (.int .i64 q2)).drew⟩
    case rest =>
    obtain ⟨rfl, b3, on3⟩ := hcut
    have HC1 := Lib.hid (fun (wx : World) (hx : Ext w0 wx) => clone_own a1 n1 c1 ctl wx (HL.out.i1.ext hx) (by have := Hn1.out; omega))
    have HC2 := Lib.hid (fun (wx : World) (hx : Ext w0 wx) => clone_own a2 n2 c2 cnd wx (HL.out.i2.ext hx) (by have := Hn2.out; omega))
    have E03 : Ext w0 wc := ext_only' HA.out.ext on3 HwH.out
    have e2 := b3.x2; have e5 := b3.x5
    have Hb3 := Lib.hid b3; have Hon3 := Lib.hid on3; have HE03 := Lib.hid E03
    clear d0 d3 e3 s12 sq b3 on3
    go_upto_region 8 with fail
    have Ed : Ext wc wc.drew := Below.drew (Ext.refl _)
    refine wp_region_any (by kernel_rfl) (anyT_plain (k := 7) (S := fun w' => w'.cell? ⟨H, 2, none⟩ = some (.slice a1 n1 c1) ∧ w'.cell? ⟨H, 5, none⟩ = some (.slice a2 n2 c2)) (T := fun w' => True) _ _ _ _ ?_)
    show anyT _ _ _ _ _ _ _ 10 #[false, false, false, false, false, false, false, false, false, false] _ _
    have hT : True := trivial
    have hHeld : wc.drew.cell? ⟨H, 2, none⟩ = some (.slice a1 n1 c1) ∧ wc.drew.cell? ⟨H, 5, none⟩ = some (.slice a2 n2 c2) := ⟨cell_ext e2 Ed, cell_ext e5 Ed⟩
    refine anyT_takeT (i := 0) (v := ?_) rfl (by decide) (by kernel_rfl) (by kernel_rfl) (by kernel_rfl) (fun _ _ _ h => h) (Or.inl ⟨by rfl, ?_⟩) hT (fun _ => hHeld) ?_
    rotate_left 1
    · intro w hSw
      go_simp
      try with_reducible rfl
    show anyT _ _ _ _ _ _ _ _ _ (Act.put _ (some 33) _) _
    simp only [Act.put, List.setIfInBounds_toArray, List.set_cons_zero, List.set_cons_succ]
    refine anyT_take (i := 1) (v := ?_) rfl (by kernel_rfl) (by kernel_rfl) (by kernel_rfl) (N := 10) (by kernel_rfl) (by kernel_rfl) (by kernel_rfl) (fun _ _ _ h => h) (Or.inl ⟨by rfl, ?_⟩) hHeld hT ?_
    rotate_left 1
    · intro w hSw
      go_simp
      try with_reducible rfl
    show anyT _ _ _ _ _ _ _ _ _ (Act.put _ (some 34) _) _
    simp only [Act.put, List.setIfInBounds_toArray, List.set_cons_zero, List.set_cons_succ]
    refine anyT_takeT (i := 3) (v := ?_) rfl (by decide) (by kernel_rfl) (by kernel_rfl) (by kernel_rfl) (fun _ _ _ h => h) (Or.inl ⟨by rfl, ?_⟩) hT (fun _ => hHeld) ?_
    rotate_left 1
    · intro w hSw
      go_simp
      try with_reducible rfl
    show anyT _ _ _ _ _ _ _ _ _ (Act.put _ (some 36) _) _
    simp only [Act.put, List.setIfInBounds_toArray, List.set_cons_zero, List.set_cons_succ]
    refine anyT_take (i := 4) (v := ?_) rfl (by kernel_rfl) (by kernel_rfl) (by kernel_rfl) (N := 10) (by kernel_rfl) (by kernel_rfl) (by kernel_rfl) (fun _ _ _ h => h) (Or.inl ⟨by rfl, ?_⟩) hHeld hT ?_
    rotate_left 1
    · intro w hSw
      go_simp
      try with_reducible rfl
    show anyT _ _ _ _ _ _ _ _ _ (Act.put _ (some 37) _) _
    simp only [Act.put, List.setIfInBounds_toArray, List.set_cons_zero, List.set_cons_succ]
    clear hT hHeld
    refine anyT_one (i := 2) (by kernel_rfl) rfl (fun Kk hKk => ?_)
    go_simp
    (go_at_call 55; refine (HC1.out wc.drew (E03.trans Ed)).mono ?_; rintro e u4 ⟨a3, c3, rfl, I3, hx4⟩)
    have E4 := Ed.trans hx4
    go_wp2_with fail
    refine hKk.out _ _ (trivial) (fun _ => ⟨cell_ext e2 E4, cell_ext e5 E4⟩) ?_
    clear hKk Kk
    simp only [List.setIfInBounds_toArray, List.set_cons_zero, List.set_cons_succ]
    have hT : True := trivial
    have hHeld : u4.cell? ⟨H, 2, none⟩ = some (.slice a1 n1 c1) ∧ u4.cell? ⟨H, 5, none⟩ = some (.slice a2 n2 c2) := ⟨cell_ext e2 E4, cell_ext e5 E4⟩
    refine anyT_takeT (i := 6) (v := ?_) rfl (by decide) (by kernel_rfl) (by kernel_rfl) (by kernel_rfl) (fun _ _ _ h => h) (Or.inl ⟨by rfl, ?_⟩) hT (fun _ => hHeld) ?_
    rotate_left 1
    · intro w hSw
      go_simp
      try with_reducible rfl
    show anyT _ _ _ _ _ _ _ _ _ (Act.put _ (some 39) _) _
    simp only [Act.put, List.setIfInBounds_toArray, List.set_cons_zero, List.set_cons_succ]
    clear hT hHeld
    refine anyT_one (i := 5) (by kernel_rfl) rfl (fun Kk hKk => ?_)
    go_simp
    (go_at_call 55; refine (HC2.out u4 (E03.trans E4)).mono ?_; rintro e u5 ⟨a5, c5, rfl, I5, hx5⟩)
    have E5 := E4.trans hx5
    go_wp2_with fail
    refine hKk.out _ _ (trivial) (fun _ => ⟨cell_ext e2 E5, cell_ext e5 E5⟩) ?_
    clear hKk Kk
    simp only [List.setIfInBounds_toArray, List.set_cons_zero, List.set_cons_succ]
    have b5 := Hb3.out.ext E5
    have y2 := b5.x2; have f2 := b5.f 2
    refine anyT_one (i := 7) (by kernel_rfl) rfl (fun Kk hKk => ?_)
    refine stepK_storeI rfl rfl _ _ rfl H 2 a3 n1 c3 (.slice a1 n1 c1) rfl rfl y2 f2 ?_
    refine hKk.out _ _ (trivial) (fun h => Bool.noConfusion (show true = false from h)) ?_
    clear hKk Kk
    simp only [List.setIfInBounds_toArray, List.set_cons_zero, List.set_cons_succ]
    have b6 : OpBx (u5.setCell ⟨H, 2, none⟩ (.slice a3 n1 c3)) H kd k a3 n1 c3 q2 bt a2 n2 c2 := ⟨heap_setCell_same u5 H 2 _ _ (.slice a3 n1 c3) b5.row⟩
    have y5 := b6.x5; have f5 := b6.f 5
    have hT : True := trivial
    refine anyT_takeT (i := 8) (v := ?_) rfl (by decide) (by kernel_rfl) (by kernel_rfl) (by kernel_rfl) (fun _ _ _ h => h) (Or.inl ⟨by rfl, ?_⟩) hT (fun h => Bool.noConfusion (show true = false from h)) ?_
    rotate_left 1
    · intro w hSw
      go_simp
      try with_reducible rfl
    show anyT _ _ _ _ _ _ _ _ _ (Act.put _ (some 40) _) _
    simp only [Act.put, List.setIfInBounds_toArray, List.set_cons_zero, List.set_cons_succ]
    clear hT
    refine anyT_one (i := 9) (by kernel_rfl) rfl (fun Kk hKk => ?_)
    refine stepK_storeI rfl rfl _ _ rfl H 5 a5 n2 c5 (.slice a2 n2 c2) rfl rfl y5 f5 ?_
    refine hKk.out _ _ (trivial) (fun h => Bool.noConfusion (show true = false from h)) ?_
    clear hKk Kk
    simp only [List.setIfInBounds_toArray, List.set_cons_zero, List.set_cons_succ]
    refine anyT_done (by kernel_rfl) ?_ _
    have b7 : OpBx ((u5.setCell ⟨H, 2, none⟩ (.slice a3 n1 c3)).setCell ⟨H, 5, none⟩ (.slice a5 n2 c5)) H kd k a3 n1 c3 q2 bt a5 n2 c5 := ⟨heap_setCell_same _ H 5 _ _ (.slice a5 n2 c5) b6.row⟩
    have on7 : Only H u5 ((u5.setCell ⟨H, 2, none⟩ (.slice a3 n1 c3)).setCell ⟨H, 5, none⟩ (.slice a5 n2 c5)) := ((Only.refl _ _).setCell _ _).setCell _ _
    have hin := only_ints b5.row (by decide) on7
    obtain ⟨B, hB⟩ : ∃ B, R0.heap.size = B := ⟨_, rfl⟩
    have hBc : wc.drew.heap.size = B := by rw [← hB]; exact Hon3.out.size
    have hN6 : OpN ((u5.setCell ⟨H, 2, none⟩ (.slice a3 n1 c3)).setCell ⟨H, 5, none⟩ (.slice a5 n2 c5)) B ⟨kd, k, ctl, q2, bt, cnd⟩ a3 n1 c3 a5 n2 c5 := by
      refine ⟨((I3.ext hx5).keep hin).down (by omega), (I5.keep hin).down (by have := hx4.size; omega), fun k h1 h2 => ?_⟩
      have h3 := (I3.lt k h1).2
      have h4 := (I5.lt k h2).1
      omega
    have hfr6 : ∀ k, k < B → k ≠ H → ((u5.setCell ⟨H, 2, none⟩ (.slice a3 n1 c3)).setCell ⟨H, 5, none⟩ (.slice a5 n2 c5)).heap[k]? = R0.heap[k]? := fun k hk hne => by
      have hkc : k < wc.heap.size := by rw [Hon3.out.size, hB]; exact hk
      rw [on7.block k hne]
      exact (E5.block k hkc).trans (Hon3.out.block k hne)
    have hsz6 : B ≤ ((u5.setCell ⟨H, 2, none⟩ (.slice a3 n1 c3)).setCell ⟨H, 5, none⟩ (.slice a5 n2 c5)).heap.size := by have h1 := E5.size; have h2 := Hon3.out.size; rw [on7.size]; omega
    have hE6 : Ext w0 ((u5.setCell ⟨H, 2, none⟩ (.slice a3 n1 c3)).setCell ⟨H, 5, none⟩ (.slice a5 n2 c5)) := ext_only' (E03.trans E5) on7 HwH.out
    have Hb7 := Lib.hid b7; have HN6 := Lib.hid hN6; have Hfr6 := Lib.hid hfr6; have Hsz6 := Lib.hid hsz6; have HE6 := Lib.hid hE6; have HB := Lib.hid hB
    clear b7 on7 hin hBc hN6 hfr6 hsz6 hE6 hB b6 y5 f5 b5 y2 f2 I3 I5 hx4 hx5 E4 E5 Ed e2 e5 E03 HC1 HC2
    generalize ((u5.setCell ⟨H, 2, none⟩ (.slice a3 n1 c3)).setCell ⟨H, 5, none⟩ (.slice a5 n2 c5)) = w6 at *
    have c2' := Hb7.out.x2
    go_upto_region 9 with fail
    go_wp2_with fail
    clear c2'
    go_loopg [6, 7, 44] n1 (fun kk _ _ s44 wr => ∃ i : Nat, s44 = .int .i64 (i : Int) ∧ i ≤ n1 ∧ n1 - i = kk ∧ OpN wr B ⟨kd, k, mpT (stA st1) ctl i, q2, bt, cnd⟩ a3 n1 c3 a5 n2 c5 ∧ OpBx wr H kd k a3 n1 c3 q2 bt a5 n2 c5 ∧ (∀ k, k < B → k ≠ H → wr.heap[k]? = R0.heap[k]?) ∧ B ≤ wr.heap.size ∧ Ext w0 wr)
    case atStart => exact ⟨0, rfl, Nat.zero_le _, rfl, by rw [mpT_zero]; exact HN6.out, Hb7.out, Hfr6.out, Hsz6.out, HE6.out⟩
    case round =>
      clear HN6 Hb7 Hfr6 Hsz6 HE6
      obtain ⟨i, rfl, hi, hk, hN, hb, hfr, hsz, hE⟩ := hrel
      have hHrow : R0.heap[H]? = some (.cells #[.int .i64 kd, .int .i64 k, .slice a1 n1 c1, .int .i64 (q : Int), .int .i64 bt, .slice a2 n2 c2] 46 (0, 0)) := Hb2.out.row
      obtain ⟨hAr, xs, hXr, hold⟩ := HA.out.frame (H := H) hE (by rw [HB.out]; exact hsz) (fun k hk hne => hfr k (by rw [← HB.out]; exact hk) hne) hHrow Hv1.out
      by_cases hin : i = n1
      rotate_left 1
      · have hlt : i < n1 := by omega
        have q1 : (i : Int) < (n1 : Int) := by omega
        have q0 : (0 : Int) ≤ (i : Int) := by omega
        have wk : IntKind.i64.wrap ((i : Int) + 1) = ((i + 1 : Nat) : Int) := by rw [IntKind.wrap_i64]; have := Hn1.out; omega
        have hil : i < ctl.length := by have := Hcl.out; omega
        obtain ⟨lb, rfl⟩ := hN.i1.addr' (by omega)
        obtain ⟨ci, fi⟩ := hN.i1.cell' i hlt
        simp only at ci
        rw [mpT_at _ _ hil] at ci
        have hset := mpT_set (stA st1) ctl hil
        obtain ⟨c, hcc⟩ : ∃ c, ctl.getD i 0 = c := ⟨_, rfl⟩
        have hcm : c ∈ ctl := by rw [← hcc, List.getD_eq_getElem?_getD, List.getElem?_eq_getElem hil]; exact List.getElem_mem hil
        obtain ⟨x, rfl, hxQ, _⟩ := Hctl.out c hcm
        rw [hcc] at ci hset
        have sx := hAr.at x hxQ
        obtain ⟨y, hy⟩ : ∃ y, st1.getD x 0 = y := ⟨_, rfl⟩
        rw [hy] at sx
        rw [show stA st1 (x : Int) = y by unfold stA; rw [Int.toNat_natCast]; exact hy] at hset
        have s12 := hAr.xs
        have d2 := hb.x2
        have p0 : (0 : Int) ≤ (x : Int) := by omega
        have p1 : (x : Int) < (Q : Int) := by omega
        have hO := only1 wr lb i (.int .i64 y)
        have hlb := (hN.i1.lt lb rfl).1
        have hHB : H < B := by rw [← HB.out]; exact Hb2.out.lt
        have Hnew := Lib.hid (show OpN (wr.setCell ⟨lb, i, none⟩ (.int .i64 y)) B ⟨kd, k, mpT (stA st1) ctl (i + 1), q2, bt, cnd⟩ (some ⟨lb, 0, none⟩) n1 c3 a5 n2 c5 from ⟨by rw [← hset]; exact hN.i1.put' hlt y, own_keep3 hN.i2 (fun g hg => hO.block g (fun e => hN.ne lb rfl (e ▸ hg))), hN.ne⟩)
        have Hbn := Lib.hid (show OpBx (wr.setCell ⟨lb, i, none⟩ (.int .i64 y)) H kd k (some ⟨lb, 0, none⟩) n1 c3 q2 bt a5 n2 c5 from ⟨(hO.block H (by omega)).trans hb.row⟩)
        have Hfn := Lib.hid (show ∀ k, k < B → k ≠ H → (wr.setCell ⟨lb, i, none⟩ (.int .i64 y)).heap[k]? = R0.heap[k]? from fun k hk hne => (hO.block k (by omega)).trans (hfr k hk hne))
        have Hsn := Lib.hid (show B ≤ (wr.setCell ⟨lb, i, none⟩ (.int .i64 y)).heap.size by rw [hO.size]; exact hsz)
        have HEn := Lib.hid (show Ext w0 (wr.setCell ⟨lb, i, none⟩ (.int .i64 y)) from ext_only' hE hO (by have := HwH.out; omega))
        have Hk := Lib.hid hk; have Hlt := Lib.hid hlt
        clear hi hk hN hb hfr hsz hE hHrow hAr hXr hold hin hlt hil hset hcc hcm hy hO hlb hHB hxQ
        go_upto_region 12 with fail
        go_region
        go_wp2_with fail
        go_roundg (n1 - (i + 1))
        case measure => have := Hk.out; have := Hlt.out; omega
        case rel => exact ⟨i + 1, rfl, Hlt.out, rfl, Hnew.out.ext (Below.drew (Ext.refl _)), ⟨Hbn.out.row⟩, Hfn.out, Hsn.out, Below.drew HEn.out⟩
      have q1 : ¬ (i : Int) < (n1 : Int) := by omega
      rw [hin, mpT_end _ _ (by have := Hcl.out; omega)] at hN
      have hlast : (ops ++ mv).length ≤ 900000 := by rw [List.length_append, HM.out.len]; have := Hl.out; have := Hj.out; have := HW.out.n12; omega
      have HAr := Lib.hid hAr; have HXr := Lib.hid hXr; have Hold := Lib.hid (show ∀ (i : Nat) (x : Value) (k : Nat), xs[i]? = some x → x.ownBlock = some k → k < B from fun i x k h1 h2 => by rw [← HB.out]; exact hold i x k h1 h2)
      have HN := Lib.hid hN; have Hb := Lib.hid hb; have Hfr := Lib.hid hfr; have HE := Lib.hid hE; have Hsz := Lib.hid hsz
      clear hi hk hin
      go_upto_region 14 with fail
      obtain ⟨va, vc, hva⟩ := HA.out.sl
      obtain ⟨LL, hLL⟩ : ∃ LL, (ops ++ mv).length = LL := ⟨_, rfl⟩
      rw [hLL] at hva hlast
      subst hva
      have HLL := Lib.hid hLL; have Hlast := Lib.hid hlast
      have x13 := hAr.xv
      have p0' := hb.x0; have p1' := hb.x1; have p2 := hb.x2; have p3 := hb.x3; have p4 := hb.x4; have p5 := hb.x5
      have Ed : Ext wr wr.drew := Below.drew (Ext.refl _)
      clear hLL hAr hXr hold hN hb hfr hE hsz hHrow hlast
      refine wp_region_K 10 (fun w' => w'.cell? ⟨Bm, 13, none⟩ = some (.slice va LL vc) ∧ w'.cell? ⟨H, 0, none⟩ = some (.int .i64 kd) ∧ w'.cell? ⟨H, 1, none⟩ = some (.int .i64 k) ∧ w'.cell? ⟨H, 2, none⟩ = some (.slice a3 n1 c3) ∧ w'.cell? ⟨H, 3, none⟩ = some (.int .i64 q2) ∧ w'.cell? ⟨H, 4, none⟩ = some (.int .i64 bt) ∧ w'.cell? ⟨H, 5, none⟩ = some (.slice a5 n2 c5)) (by kernel_rfl) ?_
      show anyK _ _ _ _ _ _ 11 #[false, false, false, false, false, false, false, false, false, false, false] _ _
      have hHeld : wr.drew.cell? ⟨Bm, 13, none⟩ = some (.slice va LL vc) ∧ wr.drew.cell? ⟨H, 0, none⟩ = some (.int .i64 kd) ∧ wr.drew.cell? ⟨H, 1, none⟩ = some (.int .i64 k) ∧ wr.drew.cell? ⟨H, 2, none⟩ = some (.slice a3 n1 c3) ∧ wr.drew.cell? ⟨H, 3, none⟩ = some (.int .i64 q2) ∧ wr.drew.cell? ⟨H, 4, none⟩ = some (.int .i64 bt) ∧ wr.drew.cell? ⟨H, 5, none⟩ = some (.slice a5 n2 c5) := ⟨cell_ext x13 Ed, cell_ext p0' Ed, cell_ext p1' Ed, cell_ext p2 Ed, cell_ext p3 Ed, cell_ext p4 Ed, cell_ext p5 Ed⟩
      refine anyK_take (i := 0) (v := ?_) rfl (by kernel_rfl) (by kernel_rfl) (by kernel_rfl) (N := 11) (by kernel_rfl) (by kernel_rfl) (by kernel_rfl) (fun _ _ _ h => h) (Or.inl ⟨by rfl, ?_⟩) hHeld ?_
      rotate_left 1
      · intro w hSw
        go_simp
        try with_reducible rfl
      show anyK _ _ _ _ _ _ _ _ (Act.put _ (some 61) _) _
      simp only [Act.put, List.setIfInBounds_toArray, List.set_cons_zero, List.set_cons_succ]
      refine anyK_take (i := 1) (v := ?_) rfl (by kernel_rfl) (by kernel_rfl) (by kernel_rfl) (N := 11) (by kernel_rfl) (by kernel_rfl) (by kernel_rfl) (fun _ _ _ h => h) (Or.inl ⟨by rfl, ?_⟩) hHeld ?_
      rotate_left 1
      · intro w hSw
        go_simp
        try with_reducible rfl
      show anyK _ _ _ _ _ _ _ _ (Act.put _ (some 62) _) _
      simp only [Act.put, List.setIfInBounds_toArray, List.set_cons_zero, List.set_cons_succ]
      refine anyK_take (i := 2) (v := ?_) rfl (by kernel_rfl) (by kernel_rfl) (by kernel_rfl) (N := 11) (by kernel_rfl) (by kernel_rfl) (by kernel_rfl) (fun _ _ _ h => h) (Or.inl ⟨by rfl, ?_⟩) hHeld ?_
      rotate_left 1
      · intro w hSw
        go_simp
        try with_reducible rfl
      show anyK _ _ _ _ _ _ _ _ (Act.put _ (some 63) _) _
      simp only [Act.put, List.setIfInBounds_toArray, List.set_cons_zero, List.set_cons_succ]
      refine anyK_take (i := 3) (v := ?_) rfl (by kernel_rfl) (by kernel_rfl) (by kernel_rfl) (N := 11) (by kernel_rfl) (by kernel_rfl) (by kernel_rfl) (fun _ _ _ h => h) (Or.inl ⟨by rfl, ?_⟩) hHeld ?_
      rotate_left 1
      · intro w hSw
        go_simp
        try with_reducible rfl
      show anyK _ _ _ _ _ _ _ _ (Act.put _ (some 64) _) _
      simp only [Act.put, List.setIfInBounds_toArray, List.set_cons_zero, List.set_cons_succ]
      refine anyK_take (i := 4) (v := ?_) rfl (by kernel_rfl) (by kernel_rfl) (by kernel_rfl) (N := 11) (by kernel_rfl) (by kernel_rfl) (by kernel_rfl) (fun _ _ _ h => h) (Or.inl ⟨by rfl, ?_⟩) hHeld ?_
      rotate_left 1
      · intro w hSw
        go_simp
        try with_reducible rfl
      show anyK _ _ _ _ _ _ _ _ (Act.put _ (some 65) _) _
      simp only [Act.put, List.setIfInBounds_toArray, List.set_cons_zero, List.set_cons_succ]
      refine anyK_take (i := 5) (v := ?_) rfl (by kernel_rfl) (by kernel_rfl) (by kernel_rfl) (N := 11) (by kernel_rfl) (by kernel_rfl) (by kernel_rfl) (fun _ _ _ h => h) (Or.inl ⟨by rfl, ?_⟩) hHeld ?_
      rotate_left 1
      · intro w hSw
        go_simp
        try with_reducible rfl
      show anyK _ _ _ _ _ _ _ _ (Act.put _ (some 66) _) _
      simp only [Act.put, List.setIfInBounds_toArray, List.set_cons_zero, List.set_cons_succ]
      clear hHeld
      have E7 : Ext wr (wr.drew.alloc (.cells #[.int .i64 kd, .int .i64 k, .slice a3 n1 c3, .int .i64 q2, .int .i64 bt, .slice a5 n2 c5] 46)) := Ed.trans (ext_al _ _)
      refine anyK_one (i := 6) (by kernel_rfl) rfl (fun Kk hKk => ?_)
      refine stepK_buildP rfl _ rfl kd k a3 n1 c3 q2 bt a5 n2 c5 rfl ?_
      refine hKk.out _ _ (fun _ => ⟨cell_ext x13 E7, cell_ext p0' E7, cell_ext p1' E7, cell_ext p2 E7, cell_ext p3 E7, cell_ext p4 E7, cell_ext p5 E7⟩) ?_
      clear hKk Kk
      show anyK _ _ _ _ _ _ _ _ (Act.put _ (some 67) _) _
      simp only [Act.put, List.setIfInBounds_toArray, List.set_cons_zero, List.set_cons_succ]
      obtain ⟨a8, c8, w8, r8, k8, m8, B8, M8⟩ := mv_append2 (HAr.out.grow E7) (HXr.out.ext E7) Hold.out (by have := HA.out.hs; have := HB.out; omega) 32 (HN.out.ext E7) ⟨wr.drew.heap.size, 0, none⟩ (new_op wr.drew _ _ _ _ _ _ _ _ _ _ _) (by have := HLL.out; have := Hlast.out; omega)
      rw [HLL.out] at r8 B8 M8
      have y8 : w8.cell? ⟨Bm, 13, none⟩ = some (.slice va LL vc) := (World.cell?_of_block (a := ⟨Bm, 13, none⟩) k8).trans (cell_ext x13 E7)
      have f8 : w8.frozen? ⟨Bm, 13, none⟩ = false := (World.frozen?_of_block (a := ⟨Bm, 13, none⟩) k8).trans ((HAr.out.grow E7).f 13)
      have bb8 : OpBx w8 H kd k a3 n1 c3 q2 bt a5 n2 c5 := ⟨(m8 H (Nat.lt_of_lt_of_le Hb.out.lt E7.size) Hv1.out).trans (Hb.out.ext E7).row⟩
      have h8 : w8.cell? ⟨Bm, 13, none⟩ = some (.slice va LL vc) ∧ w8.cell? ⟨H, 0, none⟩ = some (.int .i64 kd) ∧ w8.cell? ⟨H, 1, none⟩ = some (.int .i64 k) ∧ w8.cell? ⟨H, 2, none⟩ = some (.slice a3 n1 c3) ∧ w8.cell? ⟨H, 3, none⟩ = some (.int .i64 q2) ∧ w8.cell? ⟨H, 4, none⟩ = some (.int .i64 bt) ∧ w8.cell? ⟨H, 5, none⟩ = some (.slice a5 n2 c5) := ⟨y8, bb8.x0, bb8.x1, bb8.x2, bb8.x3, bb8.x4, bb8.x5⟩
      refine anyK_one (i := 7) (by kernel_rfl) rfl (fun Kk hKk => ?_)
      refine stepK_append rfl _ _ 32 rfl (.slice va LL vc) (.slice (some ⟨wr.drew.heap.size, 0, none⟩) 1 1) _ rfl rfl r8 ?_
      refine hKk.out _ _ (fun _ => h8) ?_
      clear hKk Kk
      show anyK _ _ _ _ _ _ _ _ (Act.put _ (some 68) _) _
      simp only [Act.put, List.setIfInBounds_toArray, List.set_cons_zero, List.set_cons_succ]
      have hHeld := h8
      refine anyK_take (i := 8) (v := ?_) rfl (by kernel_rfl) (by kernel_rfl) (by kernel_rfl) (N := 11) (by kernel_rfl) (by kernel_rfl) (by kernel_rfl) (fun _ _ _ h => h) (Or.inl ⟨by rfl, ?_⟩) hHeld ?_
      rotate_left 1
      · intro w hSw
        go_simp
        try with_reducible rfl
      show anyK _ _ _ _ _ _ _ _ (Act.put _ (some 69) _) _
      simp only [Act.put, List.setIfInBounds_toArray, List.set_cons_zero, List.set_cons_succ]
      refine anyK_take (i := 9) (v := ?_) rfl (by kernel_rfl) (by kernel_rfl) (by kernel_rfl) (N := 11) (by kernel_rfl) (by kernel_rfl) (by kernel_rfl) (fun _ _ _ h => h) (Or.inl ⟨by rfl, ?_⟩) hHeld ?_
      rotate_left 1
      · intro w hSw
        go_simp
        try with_reducible rfl
      show anyK _ _ _ _ _ _ _ _ (Act.put _ (some 70) _) _
      simp only [Act.put, List.setIfInBounds_toArray, List.set_cons_zero, List.set_cons_succ]
      clear hHeld
      refine anyK_one (i := 10) (by kernel_rfl) rfl (fun Kk hKk => ?_)
      refine stepK_store rfl rfl _ _ rfl Bm 13 a8 (LL + 1) c8 (.slice va LL vc) rfl rfl y8 f8 ?_
      refine hKk.out _ _ (fun h => Bool.noConfusion (show true = false from h)) ?_
      clear hKk Kk
      simp only [List.setIfInBounds_toArray, List.set_cons_zero, List.set_cons_succ]
      refine anyK_done (by kernel_rfl) ?_ _
      have HEnd := Lib.hid (show MvA w0 (w8.setCell ⟨Bm, 13, none⟩ (.slice a8 (LL + 1) c8)) base Bm gs Q W st1 (.slice a8 (LL + 1) c8) (ops ++ mv ++ [⟨kd, k, ctl.map (stA st1), q2, bt, cnd⟩]) from B8)
      have HXe := Lib.hid (show MvX Bm gs v (.slice a8 (LL + 1) c8) w (w8.setCell ⟨Bm, 13, none⟩ (.slice a8 (LL + 1) c8)) by
        have hwH := HwE.out
        have hRB := HB.out
        have hs1 := HX.out.size
        have hs2 := E7.size
        have hs3 := Hsz.out
        refine ⟨by have := M8.size; omega, fun k hk h1 h2 h3 => ?_, fun k hk => ?_⟩
        · rw [M8.block k (by omega) h1 h2 (fun e => by
            rcases HX.out.own k e with e | e
            · exact h3 e
            · omega), E7.block k (by omega), Hfr.out k (by omega) (by omega)]
          exact HX.out.block k hk h1 h2 h3
        · rcases M8.own k hk with e | e
          · exact HX.out.own k e
          · exact Or.inr (by omega))
      generalize w8.setCell ⟨Bm, 13, none⟩ (.slice a8 (LL + 1) c8) = W9 at *
      clear r8 k8 m8 B8 M8 y8 f8 bb8 h8 E7 Ed x13 p0' p1' p2 p3 p4 p5
      go_wp2_with fail
      go_end0
      exact ⟨rfl, _, st1, mv, j, HM.out, Hj.out, Hjz.out, Hlk.out, HS.out, by rw [← List.append_assoc]; have := HEnd.out; rw [← Hq2.out] at this; exact this, HXe.out⟩
end Go.Proofs.YtlmfhopifggeaaaDoor
namespace Go.Proofs.YtlmfhopifggeaaaDoor
open Go.RowKit

/-- 0 to n - 1, the first i of them; noughts behind. -/
def plT (n i : Nat) : List Int := (List.range n).map fun x : Nat => if x < i then (x : Int) else 0
/-- 0 to n - 1. -/
def plN (n : Nat) : List Int := plT n n
theorem plT_len (n i : Nat) : (plT n i).length = n := by unfold plT; simp
theorem plT_get (n i j : Nat) : (plT n i)[j]? = if j < n then some (if j < i then (j : Int) else 0) else none := by
  unfold plT
  rw [List.getElem?_map]
  by_cases h : j < n
  · rw [List.getElem?_range h, if_pos h]; rfl
  · rw [List.getElem?_eq_none (by rw [List.length_range]; omega), if_neg h]; rfl
theorem plT_zero (n : Nat) : plT n 0 = List.replicate n 0 := by
  apply List.ext_getElem?
  intro j
  rw [plT_get, List.getElem?_replicate]
  by_cases h : j < n
  · rw [if_pos h, if_pos h, if_neg (by omega)]
  · rw [if_neg h, if_neg h]
theorem plT_set (n i : Nat) (h : i < n) : (plT n i).set i (i : Int) = plT n (i + 1) := by
  apply List.ext_getElem?
  intro j
  rw [List.getElem?_set, plT_get, plT_get, plT_len]
  by_cases e : i = j
  · subst e
    rw [if_pos rfl, if_pos h, if_pos h, if_pos (by omega)]
  · rw [if_neg e]
    by_cases hj : j < n
    · rw [if_pos hj, if_pos hj]
      by_cases hk : j < i
      · rw [if_pos hk, if_pos (by omega)]
      · rw [if_neg hk, if_neg (by omega)]
    · rw [if_neg hj, if_neg hj]
theorem plN_len (n : Nat) : (plN n).length = n := plT_len n n
theorem plN_get (n q : Nat) (h : q < n) : (plN n)[q]? = some (q : Int) := by unfold plN; rw [plT_get, if_pos h, if_pos h]
theorem plN_ok {n M : Nat} (h : n ≤ M) : StOk (plN n) n M := by
  refine ⟨plN_len n, fun x hx => ?_, ?_⟩
  · obtain ⟨i, hi, rfl⟩ := List.mem_iff_getElem.1 hx
    rw [plN_len] at hi
    have := plN_get n i hi
    rw [List.getElem?_eq_getElem (by rw [plN_len]; exact hi)] at this
    injection this with this
    omega
  · refine List.pairwise_iff_getElem.2 fun i j hi hj hlt e => ?_
    rw [plN_len] at hi hj
    have h1 := plN_get n i hi; have h2 := plN_get n j hj
    rw [List.getElem?_eq_getElem (by rw [plN_len]; exact hi)] at h1
    rw [List.getElem?_eq_getElem (by rw [plN_len]; exact hj)] at h2
    injection h1 with h1; injection h2 with h2
    omega
/-- A row of ints in a block. -/
def IrB (w : World) (g : Nat) (l : List Int) : Prop := w.heap[g]? = some (.cells (iC l).toArray 3 (0, 0))
theorem IrB.put {w : World} {g : Nat} {l : List Int} (h : IrB w g l) (i : Nat) (b : Int) : IrB (w.setCell ⟨g, i, none⟩ (.int .i64 b)) g (l.set i b) := by
  have a := heap_setCell_same w g i _ _ (.int .i64 b) h
  unfold IrB
  rw [← iC_set]
  simpa using a
theorem IrB.at {w : World} {g : Nat} {l : List Int} (h : IrB w g l) (i : Nat) (hi : i < l.length) : w.cell? ⟨g, i, none⟩ = some (.int .i64 (l.getD i 0)) := by
  rw [cell_of_row w g i _ _ (0, 0) h, List.getElem?_toArray]
  unfold iC
  rw [List.getElem?_map, List.getD_eq_getElem?_getD, List.getElem?_eq_getElem hi]
  rfl
theorem irB_of_made {w w' : World} {base n : Nat} (h : w'.ownsRow base 3 1 (.slice (some ⟨w.heap.size, 0, none⟩) n n) n (madeCells (Value.int .i64 0).cells (n * 1)).toList) : IrB w' w.heap.size (List.replicate n 0) := by
  obtain ⟨_, h | ⟨g, cap, cur, hv, _, hh, _, _, hsz, ht⟩⟩ := h
  · simp at h
  · simp only [Value.slice.injEq, Option.some.injEq, Addr.mk.injEq, and_true, true_and] at hv
    obtain ⟨hg, rfl⟩ := hv
    subst hg
    unfold IrB
    rw [hh]
    congr 2
    apply Array.toList_inj.1
    have e1 : cur.toList.take (n * 1) = cur.toList := List.take_of_length_le (by rw [Array.length_toList, hsz]; exact Nat.le_refl _)
    have e2 : (Value.int .i64 0).cells = #[Value.int .i64 0] := rfl
    rw [e1, e2, Nat.mul_one, toList_madeCells_one] at ht
    rw [ht]
    unfold iC
    simp

set_option maxRecDepth 100000 in
set_option maxHeartbeats 2000000 in
theorem places_any (n : Nat) (w : World) (h1 : 1 ≤ n) (h12 : n ≤ 12) :
    Calls Tryd.prog 35 #[.int .i64 (n : Int)] w fun e w' => ∃ g, e = .returned (.slice (some ⟨g, 0, none⟩) n n) ∧ w.heap.size ≤ g ∧ IrB w' g (plN n) ∧ Ext w w' := by
  obtain ⟨i0, hi, hz0, hz1, hz2⟩ := info_parts i_info
  have Hn := Lib.hid (show 1 ≤ n ∧ n ≤ 12 from ⟨h1, h12⟩)
  clear h1 h12
  go_enter Tryd.func35, Tryd.ntmps35
  go_wp2_with (at_make; refine wpList_make_full w rfl _ _ 36 rfl w.heap.size 3 i0 (.int .i64 0) 1 Tryd.underlying36 hi hz0 hz1 _ _ _ _ n rfl rfl rfl rfl (by rw [hz2]; have := Hn.out; omega) (by have := Hn.out; unfold maxLen; omega) (Nat.le_refl _) ?_; intro w1 hown hgrow)
  have HR := Lib.hid (irB_of_made hown)
  have HE := Lib.hid (show Ext w w1 from (Below.refl _ _).grown hgrow (Nat.le_refl _) (fun k h => by cases h))
  obtain ⟨g, hg⟩ : ∃ g, w.heap.size = g := ⟨_, rfl⟩
  have Hg := Lib.hid hg
  rw [hg] at HR ⊢
  clear hown hgrow hg hi hz0 hz1 hz2
  go_loopg [4, 9] n (fun kk _ s9 wr => ∃ i : Nat, s9 = .int .i64 (i : Int) ∧ i ≤ n ∧ n - i = kk ∧ IrB wr g (plT n i) ∧ Ext w wr)
  case atStart => exact ⟨0, rfl, Nat.zero_le _, rfl, by rw [plT_zero]; exact HR.out, HE.out⟩
  case round =>
    clear HR HE
    obtain ⟨i, rfl, hi, hk, hR, hE⟩ := hrel
    have Hk := Lib.hid hk
    by_cases hin : i = n
    · subst hin
      have q1 : ¬ (i : Int) < (i : Int) := by omega
      have HR := Lib.hid hR; have HE := Lib.hid hE
      clear hi hk hR hE
      go_wp2_with fail
      go_ret
      exact ⟨g, rfl, by have := Hg.out; omega, HR.out, HE.out⟩
    have hlt : i < n := by omega
    have q1 : (i : Int) < (n : Int) := by omega
    have q0 : (0 : Int) ≤ (i : Int) := by omega
    have wk : IntKind.i64.wrap ((i : Int) + 1) = ((i + 1 : Nat) : Int) := by rw [IntKind.wrap_i64]; have := Hn.out; omega
    have c0 := hR.at i (by rw [plT_len]; exact hlt)
    have f0 := frozen_of_row wr g i _ _ hR
    have HR := Lib.hid (show IrB (wr.setCell ⟨g, i, none⟩ (.int .i64 (i : Int))) g (plT n (i + 1)) by rw [← plT_set n i hlt]; exact hR.put i (i : Int))
    have HE := Lib.hid (show Ext w (wr.setCell ⟨g, i, none⟩ (.int .i64 (i : Int))) from Below.setCell hE (p := ⟨g, i, none⟩) (by have := Hg.out; show w.heap.size ≤ g; omega) _)
    have Hlt := Lib.hid hlt
    obtain ⟨y, hy⟩ : ∃ y, (plT n i).getD i 0 = y := ⟨_, rfl⟩
    rw [hy] at c0
    clear hi hk hR hE hin hlt hy
    go_wp2_with fail
    go_roundg (n - (i + 1))
    case measure => have := Hk.out; have := Hlt.out; omega
    case rel => exact ⟨i + 1, rfl, Hlt.out, rfl, HR.out, HE.out⟩
end Go.Proofs.YtlmfhopifggeaaaDoor
namespace Go.Proofs.YtlmfhopifggeaaaDoor
open Go.RowKit

theorem lnksR_len (N : Int) (ls : List Lnk) : (lnksR N ls).length = 12 := by
  unfold lnksR
  split
  · rename_i h
    exact (dev_ok h).1.web.len
  · rfl
theorem lnksR_u16 (N : Int) (ls : List Lnk) : ∀ q, (lnksR N ls).getD q 0 < 65536 := by
  unfold lnksR
  split
  · rename_i h
    intro q
    have h1 := (dev_ok h).1
    exact Nat.lt_of_lt_of_le (h1.web.val q) (show 2 ^ N.toNat ≤ 2 ^ 16 from Nat.pow_le_pow_right (by decide) (by have := h1.n12; omega))
  · intro q
    rw [List.getD_eq_getElem?_getD, List.getElem?_replicate]
    split <;> decide

end Go.Proofs.YtlmfhopifggeaaaDoor
namespace Go.Proofs.YtlmfhopifggeaaaDoor
open Go.RowKit

/-- Operations done one behind the other, each ahead of it brought where it can be done. -/
inductive Ftd (W : List Nat) (M Q : Nat) : List Gop → List Gop → List Int → Prop where
  | nil : Ftd W M Q [] [] (plN Q)
  | snoc {ops out : List Gop} {st : List Int} {mv : List Gop} {st' : List Int} {j : Nat} (g : Gop) : Ftd W M Q ops out st → Mvs W st mv st' j → j ≤ M - 2 → (g.ctl = [] → j = 0) → (∀ c ∈ g.ctl, lk W (stA st' c).toNat (stA st' g.q).toNat = true) → StOk st' Q M → Ftd W M Q (ops ++ [g]) (out ++ (mv ++ [mapO st' g])) st'
theorem Ftd.len {W : List Nat} {M Q : Nat} {ops out : List Gop} {st : List Int} (h : Ftd W M Q ops out st) (hM : M ≤ 12) : out.length ≤ 31 * ops.length := by
  induction h with
  | nil => exact Nat.le_refl _
  | snoc g _ hm hj _ _ _ ih =>
    rw [List.length_append, List.length_append, List.length_append, hm.len]
    simp only [List.length_cons, List.length_nil]
    omega
theorem Ftd.ok {W : List Nat} {M Q : Nat} {ops out : List Gop} {st : List Int} (h : Ftd W M Q ops out st) (hQ : Q ≤ M) : StOk st Q M := by
  cases h with
  | nil => exact plN_ok hQ
  | snoc g _ _ _ _ _ h => exact h
theorem Ftd.few {W : List Nat} {M Q : Nat} {ops out : List Gop} {st : List Int} (h : Ftd W M Q ops out st) (hw : ∀ g ∈ ops, isWr g = false) : (out.length : Int) ≤ rckN (M : Int) ops := by
  induction h with
  | nil => unfold rckN; simp [cntP]
  | @snoc ops0 out0 st0 mv0 st1 j0 g hf hm hj hz _ _ ih =>
    have h1 := ih (fun g hg => hw g (by simp [hg]))
    have h2 := ct_of_has (hw g (by simp))
    unfold rckN at h1 ⊢
    rw [List.length_append, List.length_append, List.length_append, hm.len]
    simp only [List.length_cons, List.length_nil]
    obtain ⟨D, hD⟩ : ∃ D : Int, max ((M : Int) - 2) 0 = D := ⟨_, rfl⟩
    rw [hD] at h1 ⊢
    by_cases hc : isCt g = true
    · rw [cntP_yes hc, Int.mul_add, Int.mul_one]
      obtain ⟨Y, hY⟩ : ∃ Y, 3 * D * cntP isCt ops0 = Y := ⟨_, rfl⟩
      rw [hY] at h1 ⊢
      push_cast
      omega
    · have hc' : isCt g = false := by simpa using hc
      rw [cntP_no hc']
      have hl : g.ctl = [] := by
        rw [hc'] at h2
        have := of_decide_eq_false h2.symm
        exact List.length_eq_zero_iff.1 (by omega)
      have := hz hl
      obtain ⟨Y, hY⟩ : ∃ Y, 3 * D * cntP isCt ops0 = Y := ⟨_, rfl⟩
      rw [hY] at h1 ⊢
      push_cast
      omega
theorem ctl_neM (q n : Int) : ∀ (l s : List Int), ctlCode q n s l = 0 → ∀ c ∈ l, c ≠ q
  | [], _, _ => fun c hc => by simp at hc
  | d :: r, s, h => by
    unfold ctlCode at h
    split at h
    · omega
    split at h
    · omega
    rename_i h1 h2
    intro c hc
    rcases List.mem_cons.1 hc with rfl | hc
    · exact fun e => h2 (Or.inl e)
    · exact ctl_neM q n r _ h c hc
/-- What a mover needs of an operation. -/
structure DoFit (o : Gop) (Q : Nat) : Prop where
  q : ∃ x : Nat, o.q = (x : Int) ∧ x < Q ∧ ∀ c ∈ o.ctl, ∃ y : Nat, c = (y : Int) ∧ y < Q ∧ y ≠ x
  few : o.cnd.length ≤ 24
theorem doFit_of {o : Gop} {n b : Int} (hn1 : 1 ≤ n) (hn : n ≤ 12) (hb0 : 0 ≤ b) (hb : b ≤ 12) (h : opCode o n b = 0) : DoFit o n.toNat := by
  obtain ⟨f1, _, _, f4⟩ := fit_of_code hn hb0 hb h
  unfold opCode at h
  split at h
  · omega
  split at h
  · omega
  split at h
  · omega
  rename_i hq
  split at h
  · omega
  split at h
  · exact absurd h (by assumption)
  rename_i hc
  have hc0 : ctlCode o.q n [] o.ctl = 0 := by
    by_cases e : ctlCode o.q n [] o.ctl = 0
    · exact e
    · exact absurd e hc
  have hqr : 0 ≤ o.q ∧ o.q < n := by
    unfold fitsB at hq
    split at hq
    · have h9 : below o.q n = true := by simpa using hq
      unfold below at h9
      simp only [Bool.and_eq_true, decide_eq_true_eq] at h9
      exact h9
    · have : o.q = 0 := by simpa using hq
      omega
  refine ⟨⟨o.q.toNat, by omega, by omega, fun c hcm => ?_⟩, f1.few⟩
  have h1 := f4 c hcm; have h2 := ctl_neM o.q n o.ctl [] hc0 c hcm
  exact ⟨c.toNat, by omega, by omega, by omega⟩
theorem wr_len {g : Gop} (h : isWr g = false) : g.ctl.length ≤ 1 := by
  have := ct_of_has h
  by_cases hc : 0 < g.ctl.length
  · rw [decide_eq_true hc] at this
    unfold isCt at this
    simp only [Bool.and_eq_true, beq_iff_eq] at this
    omega
  · omega

/-- What Fit answers. -/
def FitR (c : Gci) (N : Int) (ls : List Lnk) (rq rb : Int) (out : List Gop) (s0 st : List Int) : Prop :=
  ((fitF c N ls).1 ≠ 0 → rq = 0 ∧ rb = 0 ∧ out = [] ∧ s0 = [] ∧ st = []) ∧ ((fitF c N ls).1 = 0 → rq = N ∧ rb = c.bits ∧ s0 = plN c.qubits.toNat ∧ Ftd (webOf ls) N.toNat c.qubits.toNat c.ops out st)
def FitP (c : Gci) (N : Int) (ls : List Lnk) (w : World) (e : Ending) (w' : World) : Prop :=
  ∃ (rq rb : Int) (oa : Option Addr) (on oc : Nat) (sa : Option Addr) (sn sc : Nat) (ea : Option Addr) (en ec : Nat) (out : List Gop) (s0 st : List Int),
    e = .returned (.tuple #[.agg #[.int .i64 rq, .int .i64 rb, .slice oa on oc, .slice sa sn sc, .slice ea en ec], .agg #[.int .i64 (fitF c N ls).1, .int .i64 (fitF c N ls).2]]) ∧
    (OpsAt w' oa on out ∧ on ≤ oc ∧ oc ≤ 9223372036854775807) ∧ (IntsAt w' sa sn s0 ∧ sn ≤ sc ∧ sc ≤ 9223372036854775807) ∧ (IntsAt w' ea en st ∧ en ≤ ec ∧ ec ≤ 9223372036854775807) ∧ FitR c N ls rq rb out s0 st ∧ (∀ w2 : World, (∀ k, w.heap.size ≤ k → k < w'.heap.size → w2.heap[k]? = w'.heap[k]?) → OpsAt w2 oa on out ∧ IntsAt w2 sa sn s0 ∧ IntsAt w2 ea en st) ∧ Ext w w'
theorem FitP.bad {c : Gci} {N : Int} {ls : List Lnk} {w w' : World} (F0 F1 : Int) (hF : fitF c N ls = (F0, F1)) (h0 : F0 ≠ 0) (hE : Ext w w') : FitP c N ls w (.returned (.tuple #[.agg #[.int .i64 0, .int .i64 0, .slice none 0 0, .slice none 0 0, .slice none 0 0], .agg #[.int .i64 F0, .int .i64 F1]])) w' :=
  ⟨0, 0, none, 0, 0, none, 0, 0, none, 0, 0, [], [], [], by rw [hF], ⟨⟨rfl, Or.inl rfl⟩, Nat.le_refl _, by decide⟩, ⟨⟨rfl, Or.inl rfl⟩, Nat.le_refl _, by decide⟩, ⟨⟨rfl, Or.inl rfl⟩, Nat.le_refl _, by decide⟩, ⟨fun _ => ⟨rfl, rfl, rfl, rfl, rfl⟩, fun e => by rw [hF] at e; exact absurd e h0⟩, fun _ _ => ⟨⟨rfl, Or.inl rfl⟩, ⟨rfl, Or.inl rfl⟩, ⟨rfl, Or.inl rfl⟩⟩, hE⟩
/-- What Fit answers in, in a variable. -/
structure RtB (W : World) (g : Nat) : Prop where
  row : W.heap[g]? = some (.cells #[.int .i64 0, .int .i64 0, .slice none 0 0, .slice none 0 0, .slice none 0 0] 38 (0, 0))
section
variable {W W' : World} {g : Nat}
theorem RtB.lt (h : RtB W g) : g < W.heap.size := (Array.getElem?_eq_some_iff.1 h.row).1
theorem RtB.ext (h : RtB W g) (k : Ext W W') : RtB W' g := ⟨(k.block _ h.lt).trans h.row⟩
theorem RtB.x0 (h : RtB W g) : W.cell? ⟨g, 0, none⟩ = some (.int .i64 0) := by rw [cell_of_row W g 0 _ _ (0, 0) h.row]; rfl
theorem RtB.x1 (h : RtB W g) : W.cell? ⟨g, 1, none⟩ = some (.int .i64 0) := by rw [cell_of_row W g 1 _ _ (0, 0) h.row]; rfl
theorem RtB.x2 (h : RtB W g) : W.cell? ⟨g, 2, none⟩ = some (.slice none 0 0) := by rw [cell_of_row W g 2 _ _ (0, 0) h.row]; rfl
theorem RtB.x3 (h : RtB W g) : W.cell? ⟨g, 3, none⟩ = some (.slice none 0 0) := by rw [cell_of_row W g 3 _ _ (0, 0) h.row]; rfl
theorem RtB.x4 (h : RtB W g) : W.cell? ⟨g, 4, none⟩ = some (.slice none 0 0) := by rw [cell_of_row W g 4 _ _ (0, 0) h.row]; rfl
theorem RtB.f (h : RtB W g) (o : Nat) : W.frozen? ⟨g, o, none⟩ = false := frozen_of_row W g o _ _ h.row
end
theorem rt_info : (Tryd.prog.info? 38).map (·.size) = some 5 := by kernel_rfl
theorem put5x {w W : World} {g : Nat} (h : Ext w W) (hg : w.heap.size ≤ g) (a b c d e : Value) : Ext w (((((W.setCell ⟨g, 0, none⟩ a).setCell ⟨g, 1, none⟩ b).setCell ⟨g, 2, none⟩ c).setCell ⟨g, 3, none⟩ d).setCell ⟨g, 4, none⟩ e) :=
  Below.setCell (Below.setCell (Below.setCell (Below.setCell (Below.setCell h (p := ⟨g, 0, none⟩) hg a) (p := ⟨g, 1, none⟩) hg b) (p := ⟨g, 2, none⟩) hg c) (p := ⟨g, 3, none⟩) hg d) (p := ⟨g, 4, none⟩) hg e
theorem load_row {P : Program} {ρ : Operand → Value} {o : Oper} {w : World} (ty : TypeId) (x : Operand) (ho : o.op = .load ty x) (g : Nat) (hx : ρ x = .pointer (some ⟨g, 0, none⟩)) (t : TypeId) (cs : Array Value) (fr : Nat × Nat) (d : TypeDesc) (hg : w.heap[g]? = some (.cells cs t fr))
    (hu : P.underlying ty = some d) (hd : (match d with | .struct _ | .array _ _ => true | _ => false) = true) (hi : (P.info? ty).map (·.size) = some cs.size) : (execOp ρ o).run P w = .ok (.value (.agg cs)) w := by
  unfold execOp
  simp only [ho, hx, Instr.loadAt, Instr.sureAddr, Sem.run_bind, Sem.run_pure, Result.andThen_ok, run_loadVar_row w g t ty cs fr d hg hu hd hi]
theorem stepK_storeRow {ops : Array Oper} {o : Oper} {a : Act} {K : Act → World → Prop} {Q : Exit → Act → World → Prop} {E : Prop} {w : World} (hgd : o.guard = none) (hd : o.dst = none) (ty : TypeId) (p x : Operand)
    (ho : o.op = .store ty p x) (g : Nat) (cells : Array Value) (hp : a.eval p = .pointer (some ⟨g, 0, none⟩)) (hx : a.eval x = .agg cells) (t : TypeId) (old : Array Value) (hg : w.heap[g]? = some (.cells old t (0, 0)))
    (hi : (Tryd.prog.info? ty).map (·.size) = some cells.size) (hold : old.size = cells.size) (h1 : cells.all (·.oneCell') = true) (h : K a (w.setRow g cells)) :
    if Region.wanted o (yielded ops a.tmps) = true then Oper.wp Tryd.prog o a w K Q else E := by
  have hw : Region.wanted o (yielded ops a.tmps) = true := by simp [Region.wanted, hgd]
  rw [if_pos hw]
  refine wp_store_row ty p x ho g cells hp hx t old hg hi hold h1 ?_
  rw [hd]
  exact h
theorem list12 : ∀ {l : List Nat}, l.length = 12 → ∃ a b c d e f g h i j k m, l = [a, b, c, d, e, f, g, h, i, j, k, m]
  | [a, b, c, d, e, f, g, h, i, j, k, m], _ => ⟨a, b, c, d, e, f, g, h, i, j, k, m, rfl⟩
def zero14 : Array Value := #[.int .u16 0, .int .u16 0, .int .u16 0, .int .u16 0, .int .u16 0, .int .u16 0, .int .u16 0, .int .u16 0, .int .u16 0, .int .u16 0, .int .u16 0, .int .u16 0, .slice none 0 0, .slice none 0 0]
theorem mv_info : (Tryd.prog.info? 84).map (·.size) = some 14 := by kernel_rfl
theorem mvC_one {W : List Nat} {a b : Option Addr} {n c n' c' : Nat} : (mvC W (.slice a n c) (.slice b n' c')).all (·.oneCell') = true := by
  unfold mvC
  rw [List.all_toArray, List.all_append, List.all_map]
  refine Bool.and_eq_true_iff.2 ⟨List.all_eq_true.2 fun _ _ => rfl, rfl⟩
theorem IrB.ints {w : World} {g n : Nat} {l : List Int} (h : IrB w g l) (hl : l.length = n) : IntsAt w (some ⟨g, 0, none⟩) n l :=
  ⟨hl, Or.inr ⟨g, 0, rfl, (Array.getElem?_eq_some_iff.1 h).1, fun t ht => by rw [Nat.zero_add]; exact h.at t (by omega)⟩⟩
theorem IrB.ext {w w' : World} {g : Nat} {l : List Int} (h : IrB w g l) (k : Ext w w') : IrB w' g l := (k.block _ (Array.getElem?_eq_some_iff.1 h).1).trans h
/-- What was answered stands where older blocks are written. -/
theorem OpsN.young {w w' : World} {base : Nat} {v : Value} {ops : List Gop} (h : OpsN w base v ops) (hk : ∀ b, base ≤ b → b < w.heap.size → w'.heap[b]? = w.heap[b]?) : OpsN w' base v ops := h.elim fun xs hx => ⟨xs, hx.young hk⟩
end Go.Proofs.YtlmfhopifggeaaaDoor
