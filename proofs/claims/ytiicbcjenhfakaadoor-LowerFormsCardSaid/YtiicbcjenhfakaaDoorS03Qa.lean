/-
  A tally in a variable; what is counted, in plain numbers. The program's writer of an operation. The program's Print. The reader: an operation. A region that draws its order and ends in stores: what it loads is held until the first store comes up. A copy of a circuit. The reference reads a line loosely. The reader: a circuit, read. Operations turned round in place. slices.Reverse of operations. A circuit that has a fault is not answered; what the deferred closure makes of a reader that gave up. The program's Inverse. Basic gates in plain lists: what an operation becomes, as the program makes it; each of them is one, is without a fault, and they are not too many. Nothing of the program stands here.
-/
import Derived.Test.YtiicbcjenhfakaaDoorProg
import Derived.Test.YtiicbcjenhfakaaDoorRows
import Derived.BigQuiet
import Derived.Deep.AppendLies
import Derived.Deep.Cut
import Derived.Deep.CutRange
import Derived.Deep.LoopGhost
import Derived.Deep.QuietTactic
import Derived.Deep.RegionHeld3
import Derived.Defers
import Derived.Ground.Names2Prog
import Derived.Ground.SlgnProg
import Derived.Laws.Bits64b
import Derived.Laws.CopyOwn
import Derived.Laws.ResultCell
import Derived.Lib.BitFns
import Derived.Lib.Hide
import Derived.Lib.ItoaNum
import Derived.Lib.Strings
import Derived.Lib.TrailingZeros
import Derived.Maps.AppendAt
import Derived.OwnWalk
import Derived.Recover
import Derived.Shelf.Slices.Clone
import Derived.Shelf.Slices.Turned
import Derived.Shelf.SlicesE.Clone
import Derived.Shelf.Spec.TrailingZeros
import Derived.WalkKit
import Derived.WalkLawsBesides
import Derived.WalkSpells
import Derived.Test.YtiicbcjenhfakaaDoorS00Ck
import Derived.Test.YtiicbcjenhfakaaDoorS01Cp
import Derived.Test.YtiicbcjenhfakaaDoorShelf
namespace Go.Proofs.YtiicbcjenhfakaaDoor
open Go.RowKit

/-- How many of the operations are such. -/
def cntP (p : Gop → Bool) (l : List Gop) : Int := ((l.filter p).length : Int)
theorem cntP_yes {p : Gop → Bool} {l : List Gop} {o : Gop} (h : p o = true) : cntP p (l ++ [o]) = cntP p l + 1 := by simp [cntP, List.filter_append, h]
theorem cntP_no {p : Gop → Bool} {l : List Gop} {o : Gop} (h : p o = false) : cntP p (l ++ [o]) = cntP p l := by simp [cntP, List.filter_append, h]
theorem cntP_bound (p : Gop → Bool) (l : List Gop) : 0 ≤ cntP p l ∧ cntP p l ≤ (l.length : Int) := by
  have := List.length_filter_le p l
  unfold cntP; omega
theorem cput {w W : World} {g o : Nat} (h : Ext w W) (hg : w.heap.size ≤ g) (u : Value) : Ext w (W.setCell ⟨g, o, none⟩ u) := Below.setCell h (p := ⟨g, o, none⟩) hg u
theorem cdrew {w W : World} (h : Ext w W) : Ext w W.drew := Below.drew h


end Go.Proofs.YtiicbcjenhfakaaDoor
namespace Go.Proofs.YtiicbcjenhfakaaDoor
open Go.RowKit

/-- What a checked operation keeps to. -/
structure PrFit (o : Gop) : Prop where
  kd : 1 ≤ o.kind ∧ o.kind ≤ 6
  k : 0 ≤ o.k ∧ o.k < 100
  q : 0 ≤ o.q ∧ o.q < 100
  bit : 0 ≤ o.bit ∧ o.bit < 100
  ctl : ∀ c ∈ o.ctl, 0 ≤ c ∧ c < 100
  few : o.ctl.length ≤ 12
  cnd : ∀ t ∈ o.cnd, t ≠ 0 ∧ -12 ≤ t ∧ t ≤ 12
  cfew : o.cnd.length ≤ 24


end Go.Proofs.YtiicbcjenhfakaaDoor
namespace Go.Proofs.YtiicbcjenhfakaaDoor
open Go.RowKit

theorem prFit_of_code {o : Gop} {n b : Int} (hn : n ≤ 12) (hb0 : 0 ≤ b) (hb : b ≤ 12) (h : opCode o n b = 0) : PrFit o := by
  obtain ⟨f1, f2, f3, f4⟩ := fit_of_code hn hb0 hb h
  have hk : 0 ≤ o.k ∧ o.k < 100 := by
    unfold opCode at h
    split at h
    · omega
    split at h
    · omega
    rename_i hk
    unfold fitsB at hk
    split at hk
    · have : below o.k 16 = true := by simpa using hk
      have := below_iff.1 this; omega
    · have : o.k = 0 := by simpa using hk
      omega
  have hq : 0 ≤ o.q := by
    unfold opCode at h
    split at h
    · omega
    split at h
    · omega
    split at h
    · omega
    rename_i hk
    unfold fitsB at hk
    split at hk
    · have : below o.q n = true := by simpa using hk
      have := below_iff.1 this; omega
    · have : o.q = 0 := by simpa using hk
      omega
  have := f1.bit
  exact ⟨f1.kd, hk, ⟨hq, by have := f2.2.1; omega⟩, ⟨this.1, by omega⟩, fun c hc => ⟨(f4 c hc).1, by have := (f4 c hc).2; omega⟩, f3, fun t ht => ⟨f2.2.2.2 t ht, f1.cnd t ht⟩, f1.few⟩

end Go.Proofs.YtiicbcjenhfakaaDoor
namespace Go.Proofs.YtiicbcjenhfakaaDoor
open Go.RowKit

theorem row_put {W : World} {g k : Nat} {cs cs' : Array Value} {t : TypeId} {u : Value} (h : W.heap[g]? = some (.cells cs t (0, 0))) (e : cs.setIfInBounds k u = cs') : (W.setCell ⟨g, k, none⟩ u).heap[g]? = some (.cells cs' t (0, 0)) := by
  rw [setCell_eq_setRow W g k _ _ _ _ h, setRow_heap W g _ _ _ _ h, e]
theorem row_far {W : World} {g g' k : Nat} {x : Obj} {u : Value} (h : W.heap[g]? = some x) (hne : g' ≠ g) : (W.setCell ⟨g', k, none⟩ u).heap[g]? = some x := by
  rw [Below.heap_setCell W ⟨g', k, none⟩ u g (fun e => hne e.symm)]; exact h

end Go.Proofs.YtiicbcjenhfakaaDoor
namespace Go.Proofs.YtiicbcjenhfakaaDoor

section
variable {P : Program} {ops : Array Oper} {Q : Exit → Act → World → Prop} {md : Region.Mode} {S : World → Prop} {k : Nat}

/-- In whatever order: S holds behind each operation as long as number k has not come up. -/
def anyK (P : Program) (md : Region.Mode) (ops : Array Oper) (Q : Exit → Act → World → Prop) (k : Nat) (S : World → Prop) : Nat → Array Bool → Act → World → Prop
  | 0, l, a, w => Region.ready md ops l = [] ∧ Q .normal a w
  | n + 1, l, a, w => (Region.ready md ops l = [] → Q .normal a w) ∧
      ∀ i, i ∈ Region.ready md ops l → wpOp P ops Q i (fun a' w' => ((l.setIfInBounds i true).getD k true = false → S w') ∧ anyK P md ops Q k S n (l.setIfInBounds i true) a' w') a w

theorem anyK_plain (n : Nat) : ∀ (l : Array Bool) (a : Act) (w : World), anyK P md ops Q k S n l a w → wpAny P md ops Q n l a w := by
  induction n with
  | zero => exact fun _ _ _ h => h
  | succ n ih => exact fun l a w h => ⟨h.1, fun i hi => wpOp_mono (fun a' w' h' => ih _ a' w' h'.2) (h.2 i hi)⟩

/-- Number k waits for number i, by way of others too. -/
def waits (md : Region.Mode) (ops : Array Oper) : Nat → Nat → Nat → Bool
  | 0, _, _ => false
  | n + 1, k, i => match ops[k]? with
    | some o => o.after.any fun e => Region.binds md e && (e.on == i || waits md ops n e.on i)
    | none => false

/-- What has come up has come up behind all that it waits for. -/
def closedL (md : Region.Mode) (ops : Array Oper) (l : Array Bool) : Prop :=
  ∀ j o, ops[j]? = some o → l.getD j false = true → ∀ e ∈ o.after, Region.binds md e = true → l.getD e.on false = true
def closedB (md : Region.Mode) (ops : Array Oper) (l : Array Bool) : Bool :=
  (List.range ops.size).all fun j => !(l.getD j false) || (match ops[j]? with
    | some o => o.after.all fun e => !(Region.binds md e) || l.getD e.on false
    | none => true)
theorem closedB_spec {l : Array Bool} (h : closedB md ops l = true) : closedL md ops l := by
  intro j o ho hl e he hb
  have hj : j < ops.size := (Array.getElem?_eq_some_iff.1 ho).1
  have h1 := List.all_eq_true.1 h j (List.mem_range.2 hj)
  rw [hl, ho] at h1
  have h2 : (o.after.all fun e => !(Region.binds md e) || l.getD e.on false) = true := by simpa using h1
  have h3 := Array.all_eq_true_iff_forall_mem.1 h2 e he
  rw [hb] at h3
  simpa using h3
theorem closedL_set {l : Array Bool} {j : Nat} (h : closedL md ops l) (hj : j ∈ Region.ready md ops l) : closedL md ops (l.setIfInBounds j true) := by
  intro m o ho hl e he hb
  by_cases hm : j = m
  · subst hm
    obtain ⟨_, o', ho', hall⟩ := mem_ready.1 hj
    rw [ho] at ho'
    cases ho'
    exact getD_set_true (hall e he hb)
  · rw [Go.getD_set_ne false hm] at hl
    exact getD_set_true (h m o ho hl e he hb)

theorem waits_listed {l : Array Bool} (hc : closedL md ops l) (n : Nat) : ∀ (k i : Nat), waits md ops n k i = true → (∀ o, ops[k]? = some o → ∀ e ∈ o.after, Region.binds md e = true → l.getD e.on false = true) → l.getD i false = true := by
  induction n with
  | zero => intro k i h; cases h
  | succ n ih =>
    intro k i h hk
    unfold waits at h
    cases ho : ops[k]? with
    | none => rw [ho] at h; cases h
    | some o =>
      rw [ho] at h
      obtain ⟨e, he, hb⟩ := Array.any_eq_true'.1 h
      obtain ⟨h1, h2⟩ : Region.binds md e = true ∧ (e.on = i ∨ waits md ops n e.on i = true) := by simpa using hb
      have h3 := hk o ho e he h1
      rcases h2 with h2 | h2
      · rw [← h2]; exact h3
      · exact ih e.on i h2 (fun o' ho' e' he' hb' => hc e.on o' ho' h3 e' he' hb')
theorem waits_unready {l : Array Bool} {i n : Nat} (hc : closedL md ops l) (hw : waits md ops n k i = true) (hi : i ∈ Region.ready md ops l) : k ∉ Region.ready md ops l := by
  intro hk
  obtain ⟨_, o, ho, hall⟩ := mem_ready.1 hk
  have h1 := waits_listed hc n k i hw (fun o' ho' => by rw [ho] at ho'; cases ho'; exact hall)
  have h2 := (mem_ready.1 hi).1
  rcases Nat.lt_or_ge i l.size with h | h
  · simp [h] at h1 h2
    rw [h2] at h1
    cases h1
  · simp [Array.getElem?_eq_none h] at h1

/-- Number i may be taken first, if it yields the same wherever S holds, and number k waits for it. -/
theorem anyK_first {i : Nat} {o : Oper} {v : Value} (hi : ops[i]? = some o) (hsel : ∀ (j : Nat) (o : Oper) cs b, ops[j]? = some o → o.op ≠ .select cs b)
    (hQ : ∀ c a w, Q (.panic c) (a.put o.dst v) w → Q (.panic c) a w) {N : Nat} (hw : waits md ops N k i = true) (n : Nat) :
    ∀ (l : Array Bool) (a : Act) (w : World), closedL md ops l →
      (∀ j oj, ops[j]? = some oj → j ≠ i → l.getD j true = false → (∀ e ∈ oj.after, Region.binds md e = true → e.on ≠ i) → o.apart ops oj = true) →
      i ∈ Region.ready md ops l → YieldsIf P ops S o v a → S w → l.getD k true = false →
      anyK P md ops Q k S n (l.setIfInBounds i true) (a.put o.dst v) w → anyK P md ops Q k S (n + 1) l a w := by
  induction n with
  | zero =>
    intro l a w _ _ hr hy hS _ H
    refine ⟨fun h => (by rw [h] at hr; cases hr), fun j hj => ?_⟩
    by_cases hji : j = i
    · subst hji
      exact hy.wpOp hi hS ⟨fun _ => hS, H⟩
    · have h := ready_mono hj hji
      rw [H.1] at h
      cases h
  | succ n ih =>
    intro l a w hc hfree hr hy hS hk H
    refine ⟨fun h => (by rw [h] at hr; cases hr), fun j hj => ?_⟩
    by_cases hji : j = i
    · subst hji
      exact hy.wpOp hi hS ⟨fun _ => hS, H⟩
    have hjk : j ≠ k := fun e => waits_unready hc hw hr (e ▸ hj)
    obtain ⟨hjun, oj, hoj, hall⟩ := mem_ready.1 hj
    have hnot : ∀ e ∈ oj.after, Region.binds md e = true → e.on ≠ i := by
      intro e he hb heq
      have h1 := hall e he hb
      have h0 := (mem_ready.1 hr).1
      rw [heq] at h1
      rcases Nat.lt_or_ge i l.size with h' | h'
      · simp [h'] at h0 h1
        rw [h0] at h1
        cases h1
      · simp [Array.getElem?_eq_none h'] at h1
    have h2 := wpOp_putIf hoj (hfree j oj hoj hji hjun hnot) (fun cs b => hsel i o cs b hi) (fun cs b => hsel j oj cs b hoj) hQ hy (H.2 j (ready_mono hj hji))
    have hk1 : (l.setIfInBounds j true).getD k true = false := by rw [Go.getD_set_ne true hjk]; exact hk
    have hik : i ≠ k := fun e => waits_unready hc hw hr (e ▸ hr)
    have hk2 : ((l.setIfInBounds i true).setIfInBounds j true).getD k true = false := by rw [Go.getD_set_ne true hjk, Go.getD_set_ne true hik]; exact hk
    have hfree' : ∀ m om, ops[m]? = some om → m ≠ i → (l.setIfInBounds j true).getD m true = false → (∀ e ∈ om.after, Region.binds md e = true → e.on ≠ i) → o.apart ops om = true := by
      intro m om hm hmi hun hno
      refine hfree m om hm hmi ?_ hno
      by_cases e : j = m
      · subst e; exact hjun
      · rw [Go.getD_set_ne true e] at hun; exact hun
    refine wpOp_mono (fun a' w' h3 => ?_) h2
    obtain ⟨y3, s3, r3⟩ := h3
    refine ⟨fun _ => s3 hk2, ih _ a' w' (closedL_set hc hj) hfree' (ready_mono hr (Ne.symm hji)) y3 (s3 hk2) hk1 ?_⟩
    rw [Array.setIfInBounds_comm _ _ hji]
    exact r3

theorem anyK_take {i : Nat} {o : Oper} {v : Value} {n : Nat} {l : Array Bool} {a : Act} {w : World} (hi : ops[i]? = some o)
    (hs : Region.noSelect ops = true) (hf : Region.free md ops l i = true) (hr : (Region.ready md ops l).contains i = true) {N : Nat} (hw : waits md ops N k i = true) (hc : closedB md ops l = true) (hk : l.getD k true = false)
    (hQ : ∀ c a w, Q (.panic c) (a.put o.dst v) w → Q (.panic c) a w) (hy : YieldsIf P ops S o v a) (hS : S w)
    (h : anyK P md ops Q k S n (l.setIfInBounds i true) (a.put o.dst v) w) : anyK P md ops Q k S (n + 1) l a w :=
  anyK_first hi (Region.noSelect_spec hs) hQ hw n l a w (closedB_spec hc) (Region.free_spec hi hf) (by simpa using hr) hy hS hk h

/-- One alone may come up. -/
theorem anyK_one {i : Nat} {o : Oper} {n : Nat} {l : Array Bool} {a : Act} {w : World} (hr : Region.ready md ops l = [i]) (ho : ops[i]? = some o)
    (h : ∀ K' : Act → World → Prop, Shut (∀ a w, ((l.setIfInBounds i true).getD k true = false → S w) → anyK P md ops Q k S n (l.setIfInBounds i true) a w → K' a w) → if Region.wanted o (yielded ops a.tmps) = true then Oper.wp P o a w K' Q else K' (a.put o.dst undef) w) :
    anyK P md ops Q k S (n + 1) l a w := by
  refine ⟨fun h0 => (by rw [hr] at h0; cases h0), fun j hj => ?_⟩
  rw [hr] at hj
  rcases List.mem_singleton.1 hj with rfl
  exact wpOp_step ho (fun K' hK => h K' (fun a w hS hW => hK a w ⟨hS, hW⟩))

theorem anyK_done {l : Array Bool} {a : Act} {w : World} (hr : Region.ready md ops l = []) (h : Q .normal a w) (n : Nat) : anyK P md ops Q k S n l a w := by
  cases n with
  | zero => exact ⟨hr, h⟩
  | succ n => exact ⟨fun _ => h, by rw [hr]; intro i hi; cases hi⟩

theorem wp_region_K (k : Nat) (S : World → Prop) {id : Nat} {a : Act} {w : World} (hm : P.follows .mixedOrders = true)
    (h : anyK P .any ops Q k S ops.size (Array.replicate ops.size false) a w.drew) : (Code.region id ops true).wp P Q a w :=
  wp_region_any hm (anyK_plain _ _ _ _ h)
end

end Go.Proofs.YtiicbcjenhfakaaDoor
namespace Go.Proofs.YtiicbcjenhfakaaDoor
open Go.RowKit

theorem op_info : (Tryd.prog.info? 37).map (fun i => (i.zero, i.size, i.bytes)) = some (some (.agg #[.int .i64 0, .int .i64 0, .slice none 0 0, .int .i64 0, .int .i64 0, .slice none 0 0]), 6, 80) := by kernel_rfl

/-- Operations whose lists are their own, in a slice of the call's own. -/
def OpsO (w : World) (base : Nat) (v : Value) (ops : List Gop) : Prop :=
  ∃ xs : List Value, w.ownsRow base 37 6 v ops.length xs ∧ ∀ t g, ops[t]? = some g → ∃ (a1 : Option Addr) (n1 c1 : Nat) (a2 : Option Addr) (n2 c2 : Nat),
    xs[t * 6]? = some (.int .i64 g.kind) ∧ xs[t * 6 + 1]? = some (.int .i64 g.k) ∧ xs[t * 6 + 2]? = some (.slice a1 n1 c1) ∧ xs[t * 6 + 3]? = some (.int .i64 g.q) ∧ xs[t * 6 + 4]? = some (.int .i64 g.bit) ∧ xs[t * 6 + 5]? = some (.slice a2 n2 c2) ∧ OpO w g a1 n1 c1 a2 n2 c2
theorem OpsO.nil (w : World) (base : Nat) : OpsO w base (.slice none 0 0) [] := ⟨[], ⟨rfl, Or.inl ⟨rfl, rfl⟩⟩, fun t g h => by simp at h⟩
theorem own_keep {w w' : World} {base : Nat} {e : TypeId} {size : Nat} {v : Value} {n : Nat} {xs : List Value} (h : w.ownsRow base e size v n xs) (hk : ∀ (g : Nat) (cur : Array Value), base ≤ g → w.heap[g]? = some (.cells cur e (0, 0)) → w'.heap[g]? = w.heap[g]?) : w'.ownsRow base e size v n xs := by
  refine ⟨h.1, ?_⟩
  rcases h.2 with h | ⟨g, cap, cur, hv, hb, hg, rest⟩
  · exact Or.inl h
  · exact Or.inr ⟨g, cap, cur, hv, hb, (hk g cur hb hg).trans hg, rest⟩
theorem OpsO.ext {w w' : World} {base : Nat} {v : Value} {ops : List Gop} (h : OpsO w base v ops) (k : Ext w w') : OpsO w' base v ops := by
  obtain ⟨xs, h1, h2⟩ := h
  refine ⟨xs, own_keep h1 (fun g cur _ hg => k.block g (Array.getElem?_eq_some_iff.1 hg).1), fun t g hg => ?_⟩
  obtain ⟨a1, n1, c1, a2, n2, c2, e0, e1, e2, e3, e4, e5, e6⟩ := h2 t g hg
  exact ⟨a1, n1, c1, a2, n2, c2, e0, e1, e2, e3, e4, e5, e6.ext k⟩
/-- Written elsewhere, in a block of another kind, or one that is older. -/
theorem OpsO.only {w w' : World} {base k : Nat} {v : Value} {ops : List Gop} {cs : Array Value} {T : TypeId} {fr : Nat × Nat} (h : OpsO w base v ops) (hk : w.heap[k]? = some (.cells cs T fr)) (hT : T ≠ 3) (hO : Only k w w') (hs : w.heap.size ≤ w'.heap.size) (hb : k < base) : OpsO w' base v ops := by
  obtain ⟨xs, h1, h2⟩ := h
  refine ⟨xs, own_keep h1 (fun g cur hg _ => hO.block g (by omega)), fun t g hg => ?_⟩
  obtain ⟨a1, n1, c1, a2, n2, c2, e0, e1, e2, e3, e4, e5, e6⟩ := h2 t g hg
  exact ⟨a1, n1, c1, a2, n2, c2, e0, e1, e2, e3, e4, e5, e6.keep hs (only_ints hk hT hO)⟩
theorem OpsO.at {w : World} {base : Nat} {v : Value} {ops : List Gop} (h : OpsO w base v ops) : ∃ (a : Option Addr) (c : Nat), v = .slice a ops.length c ∧ ops.length ≤ c ∧ c ≤ maxLen ∧ OpsAt w a ops.length ops := by
  obtain ⟨xs, h1, h2⟩ := h
  rcases h1.2 with ⟨rfl, h0⟩ | ⟨g, cap, cur, hv, hb, hg, hn, hcm, _, htk⟩
  · rw [h0]
    exact ⟨none, 0, rfl, Nat.le_refl _, Nat.zero_le _, h0, Or.inl rfl⟩
  · refine ⟨some ⟨g, 0, none⟩, cap, hv, hn, hcm, rfl, Or.inr ⟨g, 0, rfl, (Array.getElem?_eq_some_iff.1 hg).1, fun t gg hgg => ?_⟩⟩
    obtain ⟨a1, n1, c1, a2, n2, c2, e0, e1, e2, e3, e4, e5, e6⟩ := h2 t gg hgg
    have ht := (List.getElem?_eq_some_iff.1 hgg).1
    have hc : ∀ j, j < ops.length * 6 → w.cell? ⟨g, 0 + j, none⟩ = xs[j]? := by
      intro j hj
      rw [Nat.zero_add, cell_of_row w g j cur _ (0, 0) hg, ← Array.getElem?_toList, ← htk, List.getElem?_take, if_pos hj]
    exact ⟨a1, n1, c1, a2, n2, c2, by rw [hc _ (by omega)]; exact e0, by rw [Nat.add_assoc, hc _ (by omega)]; exact e1, by rw [Nat.add_assoc, hc _ (by omega)]; exact e2, by rw [Nat.add_assoc, hc _ (by omega)]; exact e3, by rw [Nat.add_assoc, hc _ (by omega)]; exact e4, by rw [Nat.add_assoc, hc _ (by omega)]; exact e5, e6.l⟩
/-- One more behind them. -/
theorem OpsO.snoc {w w' : World} {base : Nat} {v' : Value} {ops : List Gop} {xs : List Value} {g : Gop} {a1 : Option Addr} {n1 c1 : Nat} {a2 : Option Addr} {n2 c2 : Nat}
    (h1 : w'.ownsRow base 37 6 v' (ops.length + 1) (xs ++ [.int .i64 g.kind, .int .i64 g.k, .slice a1 n1 c1, .int .i64 g.q, .int .i64 g.bit, .slice a2 n2 c2])) (hx : xs.length = ops.length * 6)
    (h2 : ∀ t g, ops[t]? = some g → ∃ (a1 : Option Addr) (n1 c1 : Nat) (a2 : Option Addr) (n2 c2 : Nat), xs[t * 6]? = some (.int .i64 g.kind) ∧ xs[t * 6 + 1]? = some (.int .i64 g.k) ∧ xs[t * 6 + 2]? = some (.slice a1 n1 c1) ∧ xs[t * 6 + 3]? = some (.int .i64 g.q) ∧ xs[t * 6 + 4]? = some (.int .i64 g.bit) ∧ xs[t * 6 + 5]? = some (.slice a2 n2 c2) ∧ OpO w g a1 n1 c1 a2 n2 c2)
    (hk : ∀ (g : Gop) (a1 : Option Addr) (n1 c1 : Nat) (a2 : Option Addr) (n2 c2 : Nat), OpO w g a1 n1 c1 a2 n2 c2 → OpO w' g a1 n1 c1 a2 n2 c2) (hO : OpO w' g a1 n1 c1 a2 n2 c2) : OpsO w' base v' (ops ++ [g]) := by
  have hl : (ops ++ [g]).length = ops.length + 1 := by simp
  refine ⟨_, by rw [hl]; exact h1, fun t gg hgg => ?_⟩
  have ht := (List.getElem?_eq_some_iff.1 hgg).1
  rw [hl] at ht
  by_cases e : t = ops.length
  · subst e
    rw [List.getElem?_append_right (Nat.le_refl _), Nat.sub_self] at hgg
    cases hgg
    have hr : ∀ j, (xs ++ [.int .i64 g.kind, .int .i64 g.k, .slice a1 n1 c1, .int .i64 g.q, .int .i64 g.bit, .slice a2 n2 c2])[ops.length * 6 + j]? = ([.int .i64 g.kind, .int .i64 g.k, .slice a1 n1 c1, .int .i64 g.q, .int .i64 g.bit, .slice a2 n2 c2] : List Value)[j]? := fun j => by
      rw [List.getElem?_append_right (by omega), hx, Nat.add_sub_cancel_left]
    exact ⟨a1, n1, c1, a2, n2, c2, hr 0, hr 1, hr 2, hr 3, hr 4, hr 5, hO⟩
  · rw [List.getElem?_append_left (by omega)] at hgg
    obtain ⟨b1, m1, d1, b2, m2, d2, e0, e1, e2, e3, e4, e5, e6⟩ := h2 t gg hgg
    have hr : ∀ j, j < 6 → (xs ++ [.int .i64 g.kind, .int .i64 g.k, .slice a1 n1 c1, .int .i64 g.q, .int .i64 g.bit, .slice a2 n2 c2])[t * 6 + j]? = xs[t * 6 + j]? := fun j hj => List.getElem?_append_left (by omega)
    exact ⟨b1, m1, d1, b2, m2, d2, (hr 0 (by omega)).trans e0, (hr 1 (by omega)).trans e1, (hr 2 (by omega)).trans e2, (hr 3 (by omega)).trans e3, (hr 4 (by omega)).trans e4, (hr 5 (by omega)).trans e5, hk _ _ _ _ _ _ _ e6⟩
theorem PtKind {w : World} {base n size : Nat} {v : Value} {xs : List Value} {e : TypeId} (h : w.ownsRow base e size v n xs) : ∀ k, v.ownBlock = some k → base ≤ k ∧ ∃ cs fr, w.heap[k]? = some (.cells cs e fr) := by
  intro k hk
  rcases h.2 with ⟨rfl, _⟩ | ⟨g, cap, cur, rfl, hb, hg, _⟩
  · simp [Value.ownBlock] at hk
  · simp [Value.ownBlock] at hk
    subst hk
    exact ⟨hb, cur, (0, 0), hg⟩
theorem new_op (w : World) (k0 k1 : Int) (a1 : Option Addr) (n1 c1 : Nat) (k3 k4 : Int) (a2 : Option Addr) (n2 c2 : Nat) (e : TypeId) : ∀ j u, ([.int .i64 k0, .int .i64 k1, .slice a1 n1 c1, .int .i64 k3, .int .i64 k4, .slice a2 n2 c2] : List Value)[j]? = some u → (w.alloc (.cells #[.int .i64 k0, .int .i64 k1, .slice a1 n1 c1, .int .i64 k3, .int .i64 k4, .slice a2 n2 c2] e)).cell? ((⟨w.heap.size, 0, none⟩ : Addr).add j) = some u := by
  intro j u hu
  have hadd : (⟨w.heap.size, 0, none⟩ : Addr).add j = ⟨w.heap.size, j, none⟩ := by unfold Addr.add; split <;> simp_all
  rw [hadd, cell_of_row _ _ j _ _ (0, 0) (heap_alloc_new w _)]
  simpa using hu
theorem one_op (k0 k1 : Int) (a1 : Option Addr) (n1 c1 : Nat) (k3 k4 : Int) (a2 : Option Addr) (n2 c2 : Nat) : ∀ u ∈ ([.int .i64 k0, .int .i64 k1, .slice a1 n1 c1, .int .i64 k3, .int .i64 k4, .slice a2 n2 c2] : List Value), u.oneCell' = true := by
  intro u hu
  simp only [List.mem_cons, List.not_mem_nil, or_false] at hu
  rcases hu with rfl | rfl | rfl | rfl | rfl | rfl <;> rfl
theorem stepK_append {ops : Array Oper} {o : Oper} {a : Act} {K : Act → World → Prop} {Q : Exit → Act → World → Prop} {E : Prop} {w w' : World} (hgd : o.guard = none) (s x : Operand) (t : TypeId)
    (ho : o.op = .call { callee := .builtin .append, args := #[s, x], argTypes := #[t, t] }) (v1 v2 r : Value) (hs : a.eval s = v1) (hx : a.eval x = v2)
    (hap : (Builtin.append_ #[t, t] o.type #[v1, v2]).run Tryd.prog w = .ok r w') (h : K (a.put o.dst r) w') :
    if Region.wanted o (yielded ops a.tmps) = true then Oper.wp Tryd.prog o a w K Q else E := by
  have hw : Region.wanted o (yielded ops a.tmps) = true := by simp [Region.wanted, hgd]
  rw [if_pos hw]
  unfold Oper.wp execOp
  simp only [ho, resolve, invoke, builtin, Sem.run_bind, Sem.run_pure, Result.andThen_ok, List.map_toArray, List.map_cons, List.map_nil, hs, hx, hap]
  exact h
set_option maxHeartbeats 400000 in
theorem stepK_store {ops : Array Oper} {o : Oper} {a : Act} {K : Act → World → Prop} {Q : Exit → Act → World → Prop} {E : Prop} {w : World} (hgd : o.guard = none) (hd : o.dst = none) (p x : Operand)
    (ho : o.op = .store 22 p x) (b off : Nat) (a' : Option Addr) (n' c' : Nat) (u : Value) (hp : a.eval p = .pointer (some ⟨b, off, none⟩)) (hx : a.eval x = .slice a' n' c')
    (hcell : w.cell? ⟨b, off, none⟩ = some u) (hfz : w.frozen? ⟨b, off, none⟩ = false) (h : K a (w.setCell ⟨b, off, none⟩ (.slice a' n' c'))) :
    if Region.wanted o (yielded ops a.tmps) = true then Oper.wp Tryd.prog o a w K Q else E := by
  have hw : Region.wanted o (yielded ops a.tmps) = true := by simp [Region.wanted, hgd]
  rw [if_pos hw]
  obtain ⟨od, oo, ot, opp, oa, og⟩ := o
  simp only at ho hd
  subst ho hd
  have HH := Lib.hid h
  clear h
  unfold Oper.wp execOp
  simp only [hp, hx]
  go_simp
  exact HH.out
theorem CiB.f {W : World} {g : Nat} {qb bi : Int} {ao : Option Addr} {n cp : Nat} (h : CiB W g qb bi ao n cp) (o : Nat) : W.frozen? ⟨g, o, none⟩ = false := frozen_of_row W g o _ _ h.row
theorem CiB.set2 {W : World} {g : Nat} {qb bi : Int} {ao : Option Addr} {n cp : Nat} (h : CiB W g qb bi ao n cp) (a : Option Addr) (m c : Nat) : CiB (W.setCell ⟨g, 2, none⟩ (.slice a m c)) g qb bi a m c := ⟨heap_setCell_same W g 2 _ _ (.slice a m c) h.row⟩
theorem CiB_grown {a w' : World} {v : Value} {base g : Nat} {e : TypeId} {qb bi : Int} {ao : Option Addr} {n cp : Nat} (hg : a.grownBy w' v.ownBlock) (hk : ∀ k, v.ownBlock = some k → base ≤ k ∧ ∃ cs fr, a.heap[k]? = some (.cells cs e fr)) (h : CiB a g qb bi ao n cp) (hb : g < base) : CiB w' g qb bi ao n cp :=
  ⟨(hg.block g h.lt (fun e => by have := (hk g e.symm).1; omega)).trans h.row⟩
/-- A cell of a block that is older than the row that grows. -/
theorem cell_grown {w a w' : World} {v : Value} {base : Nat} {e : TypeId} (hg : a.grownBy w' v.ownBlock) (hk : ∀ k, v.ownBlock = some k → base ≤ k ∧ ∃ cs fr, a.heap[k]? = some (.cells cs e fr)) {b o : Nat} {u : Value} (hc : w.cell? ⟨b, o, none⟩ = some u) (hE : Ext w a) (hb : b < base) : w'.cell? ⟨b, o, none⟩ = some u := by
  have h1 := cell_ext hc hE
  exact (World.cell?_of_block (a := ⟨b, o, none⟩) (hg.block b (World.block_lt_of_cell? a ⟨b, o, none⟩ h1) (fun h => by have := (hk b h.symm).1; omega))).trans h1

set_option maxHeartbeats 8000000 in
set_option maxRecDepth 100000 in
theorem CopyCircuit_any (c : Gci) (ao : Option Addr) (n cp : Nat) (w : World) (h : OpsAt w ao n c.ops) (hbn : n * 80 ≤ 140737488355328) (hbl : ∀ g ∈ c.ops, g.ctl.length * 8 ≤ 140737488355328 ∧ g.cnd.length * 8 ≤ 140737488355328) :
    Calls Tryd.prog 4 #[.agg #[.int .i64 c.qubits, .int .i64 c.bits, .slice ao n cp]] w fun e w' => (∃ (a' : Option Addr) (c' : Nat), e = .returned (.agg #[.int .i64 c.qubits, .int .i64 c.bits, .slice a' n c']) ∧ n ≤ c' ∧ c' ≤ maxLen ∧ OpsAt w' a' n c.ops) ∧ Ext w w' := by
  obtain ⟨qb, bi, ops⟩ := c
  obtain ⟨i0, hi, hz0, hz1, hz2⟩ := info_parts op_info
  obtain ⟨H, hH⟩ : ∃ H, w.heap.size = H := ⟨_, rfl⟩
  have HhH := Lib.hid hH
  have E0 := ((ext_al w (.cells #[.int .i64 qb, .int .i64 bi, .slice ao n cp] 24)).trans (ext_al _ (.cells #[.int .i64 0, .int .i64 0, .slice none 0 0] 24))).trans (ext_al _ (.cells #[.int .i64 qb, .int .i64 bi, .slice none 0 0] 24))
  have bC : CiB (((w.alloc (.cells #[.int .i64 qb, .int .i64 bi, .slice ao n cp] 24)).alloc (.cells #[.int .i64 0, .int .i64 0, .slice none 0 0] 24)).alloc (.cells #[.int .i64 qb, .int .i64 bi, .slice none 0 0] 24)) w.heap.size qb bi ao n cp := (CiB.ext ⟨heap_alloc_new w _⟩ (ext_al _ _)).ext (ext_al _ _)
  have bR : CiB (((w.alloc (.cells #[.int .i64 qb, .int .i64 bi, .slice ao n cp] 24)).alloc (.cells #[.int .i64 0, .int .i64 0, .slice none 0 0] 24)).alloc (.cells #[.int .i64 qb, .int .i64 bi, .slice none 0 0] 24)) (w.heap.size + 1) 0 0 none 0 0 := CiB.ext ⟨by
    have := heap_alloc_new (w.alloc (.cells #[.int .i64 qb, .int .i64 bi, .slice ao n cp] 24)) (.cells #[.int .i64 0, .int .i64 0, .slice none 0 0] 24)
    simpa using this⟩ (ext_al _ _)
  have bO : CiB (((w.alloc (.cells #[.int .i64 qb, .int .i64 bi, .slice ao n cp] 24)).alloc (.cells #[.int .i64 0, .int .i64 0, .slice none 0 0] 24)).alloc (.cells #[.int .i64 qb, .int .i64 bi, .slice none 0 0] 24)) (w.heap.size + 2) qb bi none 0 0 := ⟨by
    have := heap_alloc_new ((w.alloc (.cells #[.int .i64 qb, .int .i64 bi, .slice ao n cp] 24)).alloc (.cells #[.int .i64 0, .int .i64 0, .slice none 0 0] 24)) (.cells #[.int .i64 qb, .int .i64 bi, .slice none 0 0] 24)
    simpa using this⟩
  have Hl := Lib.hid h.1
  have HE0 := Lib.hid E0; have HOp := Lib.hid (h.ext E0); have Hops0 := Lib.hid h; have HC := Lib.hid bC; have HR := Lib.hid bR; have HO := Lib.hid bO; have Hbl := Lib.hid hbl
  have HoldA : Hid (n = 0 ∨ ∃ b o, ao = some ⟨b, o, none⟩ ∧ b < w.heap.size) := by
    rcases h.2 with h0 | ⟨b, o, e, hb, _⟩
    · exact Or.inl h0
    · exact Or.inr ⟨b, o, e, hb⟩
  simp only at Hl ⊢
  clear h E0 bC bR bO hbl
  go_enter Tryd.func4, Tryd.ntmps4
  go_wp2_with fail
  generalize ((w.alloc (.cells #[.int .i64 qb, .int .i64 bi, .slice ao n cp] 24)).alloc (.cells #[.int .i64 0, .int .i64 0, .slice none 0 0] 24)).alloc (.cells #[.int .i64 qb, .int .i64 bi, .slice none 0 0] 24) = W0 at *
  obtain ⟨base, hbase⟩ : ∃ base, W0.heap.size = base := ⟨_, rfl⟩
  have HoutL : Hid (w.heap.size + 2 < W0.heap.size) := HO.out.lt
  have hH3 : H + 2 < base := by have := HoutL.out; omega
  rw [hH] at HoutL HC HR HO
  go_loopg [4] n (fun kk s4 wr => ∃ (i : Nat) (av : Option Addr) (cv : Nat), s4 = .int .i64 (i : Int) ∧ i ≤ n ∧ n - i = kk ∧ CiB wr H qb bi ao n cp ∧ CiB wr (H + 1) 0 0 none 0 0 ∧ CiB wr (H + 2) qb bi av i cv ∧ OpsAt wr ao n ops ∧ OpsO wr base (.slice av i cv) (ops.take i) ∧ Ext w wr ∧ base ≤ wr.heap.size)
  case atStart => exact ⟨0, none, 0, rfl, by omega, by omega, HC.out, HR.out, HO.out, HOp.out, OpsO.nil _ _, HE0.out, by omega⟩
  case round =>
    clear HC HR HO HOp HE0
    obtain ⟨i, av, cv, rfl, hin', hk, bC, bR, bO, hops, hown, hER, hbs⟩ := hrel
    have HC := Lib.hid bC; have HR := Lib.hid bR; have Hout := Lib.hid bO; have HOp := Lib.hid hops; have Hown := Lib.hid hown; have HER := Lib.hid hER
    have v0 := bO.x2; have v2 := bC.x2
    by_cases hin : i = n
    · have h2 : ¬ (i : Int) < (n : Int) := by omega
      have ho := hown
      rw [List.take_of_length_le (by rw [Hl.out]; omega)] at ho
      obtain ⟨a', c', ev, l1, l2, hat⟩ := ho.at
      rw [Hl.out] at ev l1 hat
      cases ev
      have x0 := bO.x0; have x1 := bO.x1; have r0 := bR.x0; have r1 := bR.x1; have r2 := bR.x2; have g0 := bR.f 0; have g1 := bR.f 1; have g2 := bR.f 2
      have hO3 : Only (H + 1) wr (((wr.setCell ⟨H + 1, 0, none⟩ (.int .i64 qb)).setCell ⟨H + 1, 1, none⟩ (.int .i64 bi)).setCell ⟨H + 1, 2, none⟩ (.slice av n cv)) := (((Only.refl _ _).setCell _ _).setCell _ _).setCell _ _
      obtain ⟨a9, c9, ev9, k1, k2, hat9⟩ := (ho.only bR.row (by decide) hO3 (by simp) (by omega)).at
      rw [Hl.out] at ev9 k1 hat9
      cases ev9
      have Hat := Lib.hid hat9; have Hl1 := Lib.hid k1; have Hl2 := Lib.hid k2
      clear bC bR bO hops hown hER ho hat l1 l2 k1 k2 hat9 hO3
      go_wp2_with fail
      exact bodyPost_ret (v := .agg #[.int .i64 qb, .int .i64 bi, .slice av n cv]) (by simp [results, Tryd.results4, go_sem, r0, r1, r2]) rfl ⟨⟨av, cv, rfl, Hl1.out, Hl2.out, Hat.out⟩, Below.setCell (Below.setCell (Below.setCell HER.out (p := ⟨H + 1, 0, none⟩) (show w.heap.size ≤ H + 1 by have := HhH.out; omega) _) (p := ⟨H + 1, 1, none⟩) (show w.heap.size ≤ H + 1 by have := HhH.out; omega) _) (p := ⟨H + 1, 2, none⟩) (show w.heap.size ≤ H + 1 by have := HhH.out; omega) _⟩
    · have h2 : (i : Int) < (n : Int) := by omega
      have h0 : (0 : Int) ≤ (i : Int) := by omega
      rcases HoldA.out with h | ⟨b, o, rfl, hbw⟩
      · omega
      have HbB : Hid (b < base) := by show b < base; omega
      obtain ⟨gg, hg⟩ : ∃ g, ops[i]? = some g := ⟨_, List.getElem?_eq_getElem (by rw [Hl.out]; omega)⟩
      obtain ⟨a1, n1, c1, a2, n2, c2, e0, e1, e2, e3, e4, e5, hL⟩ := hops.at i gg hg
      have hbl := Hbl.out gg (List.mem_of_getElem? hg)
      rw [hL.i1.1, hL.i2.1] at hbl
      have hst : ops.take (i + 1) = ops.take i ++ [gg] := by rw [List.take_add_one, hg]; rfl
      have Hst := Lib.hid hst
      have HCp := Lib.hid (fun wx (hx : Ext wr wx) => copyOp_any gg a1 n1 c1 a2 n2 c2 wx (hL.ext hx) hbl.1 hbl.2)
      obtain ⟨kd, kk', ctl, qq, bb, cnd⟩ := gg
      simp only at e0 e1 e2 e3 e4 e5 HCp
      clear bC bR bO hops hown hER hL hst hbl hg
      go_wp2_with fail
      have hE0d : Ext wr wr.drew := Below.drew (Ext.refl _)
      refine wp_region_K 11 (fun w' => w'.cell? ⟨H + 2, 2, none⟩ = some (.slice av i cv) ∧ w'.cell? ⟨H, 2, none⟩ = some (.slice (some ⟨b, o, none⟩) n cp) ∧ w'.cell? ⟨b, o + i * 6, none⟩ = some (.int .i64 kd) ∧ w'.cell? ⟨b, o + i * 6 + 1, none⟩ = some (.int .i64 kk') ∧ w'.cell? ⟨b, o + i * 6 + 2, none⟩ = some (.slice a1 n1 c1) ∧ w'.cell? ⟨b, o + i * 6 + 3, none⟩ = some (.int .i64 qq) ∧ w'.cell? ⟨b, o + i * 6 + 4, none⟩ = some (.int .i64 bb) ∧ w'.cell? ⟨b, o + i * 6 + 5, none⟩ = some (.slice a2 n2 c2)) (by kernel_rfl) ?_
      show anyK _ _ _ _ _ _ 12 #[false, false, false, false, false, false, false, false, false, false, false, false] _ _
      have hHeld : wr.drew.cell? ⟨H + 2, 2, none⟩ = some (.slice av i cv) ∧ wr.drew.cell? ⟨H, 2, none⟩ = some (.slice (some ⟨b, o, none⟩) n cp) ∧ wr.drew.cell? ⟨b, o + i * 6, none⟩ = some (.int .i64 kd) ∧ wr.drew.cell? ⟨b, o + i * 6 + 1, none⟩ = some (.int .i64 kk') ∧ wr.drew.cell? ⟨b, o + i * 6 + 2, none⟩ = some (.slice a1 n1 c1) ∧ wr.drew.cell? ⟨b, o + i * 6 + 3, none⟩ = some (.int .i64 qq) ∧ wr.drew.cell? ⟨b, o + i * 6 + 4, none⟩ = some (.int .i64 bb) ∧ wr.drew.cell? ⟨b, o + i * 6 + 5, none⟩ = some (.slice a2 n2 c2) := ⟨cell_ext v0 hE0d, cell_ext v2 hE0d, cell_ext e0 hE0d, cell_ext e1 hE0d, cell_ext e2 hE0d, cell_ext e3 hE0d, cell_ext e4 hE0d, cell_ext e5 hE0d⟩
      refine anyK_take (i := 0) (v := ?_) rfl (by kernel_rfl) (by kernel_rfl) (by kernel_rfl) (N := 8) (by kernel_rfl) (by kernel_rfl) (by kernel_rfl) (fun _ _ _ h => h) (Or.inl ⟨by rfl, ?_⟩) hHeld ?_
      rotate_left 1
      · intro w hSw
        go_simp
        try with_reducible rfl
      show anyK _ _ _ _ _ _ _ _ (Act.put _ (some 17) _) _
      simp only [Act.put, List.setIfInBounds_toArray, List.set_cons_zero, List.set_cons_succ]
      refine anyK_take (i := 1) (v := ?_) rfl (by kernel_rfl) (by kernel_rfl) (by kernel_rfl) (N := 8) (by kernel_rfl) (by kernel_rfl) (by kernel_rfl) (fun _ _ _ h => h) (Or.inl ⟨by rfl, ?_⟩) hHeld ?_
      rotate_left 1
      · intro w hSw
        go_simp
        try with_reducible rfl
      show anyK _ _ _ _ _ _ _ _ (Act.put _ (some 18) _) _
      simp only [Act.put, List.setIfInBounds_toArray, List.set_cons_zero, List.set_cons_succ]
      refine anyK_take (i := 2) (v := ?_) rfl (by kernel_rfl) (by kernel_rfl) (by kernel_rfl) (N := 8) (by kernel_rfl) (by kernel_rfl) (by kernel_rfl) (fun _ _ _ h => h) (Or.inl ⟨by rfl, ?_⟩) hHeld ?_
      rotate_left 1
      · intro w hSw
        go_simp
        try with_reducible rfl
      show anyK _ _ _ _ _ _ _ _ (Act.put _ (some 19) _) _
      simp only [Act.put, List.setIfInBounds_toArray, List.set_cons_zero, List.set_cons_succ]
      refine anyK_take (i := 3) (v := ?_) rfl (by kernel_rfl) (by kernel_rfl) (by kernel_rfl) (N := 8) (by kernel_rfl) (by kernel_rfl) (by kernel_rfl) (fun _ _ _ h => h) (Or.inl ⟨by rfl, ?_⟩) hHeld ?_
      rotate_left 1
      · intro w hSw
        go_simp
        try with_reducible rfl
      show anyK _ _ _ _ _ _ _ _ (Act.put _ (some 20) _) _
      simp only [Act.put, List.setIfInBounds_toArray, List.set_cons_zero, List.set_cons_succ]
      refine anyK_take (i := 4) (v := ?_) rfl (by kernel_rfl) (by kernel_rfl) (by kernel_rfl) (N := 8) (by kernel_rfl) (by kernel_rfl) (by kernel_rfl) (fun _ _ _ h => h) (Or.inl ⟨by rfl, ?_⟩) hHeld ?_
      rotate_left 1
      · intro w hSw
        go_simp
        try with_reducible rfl
      show anyK _ _ _ _ _ _ _ _ (Act.put _ (some 21) _) _
      simp only [Act.put, List.setIfInBounds_toArray, List.set_cons_zero, List.set_cons_succ]
      refine anyK_take (i := 5) (v := ?_) rfl (by kernel_rfl) (by kernel_rfl) (by kernel_rfl) (N := 8) (by kernel_rfl) (by kernel_rfl) (by kernel_rfl) (fun _ _ _ h => h) (Or.inl ⟨by rfl, ?_⟩) hHeld ?_
      rotate_left 1
      · intro w hSw
        go_simp
        try with_reducible rfl
      show anyK _ _ _ _ _ _ _ _ (Act.put _ (some 22) _) _
      simp only [Act.put, List.setIfInBounds_toArray, List.set_cons_zero, List.set_cons_succ]
      refine anyK_take (i := 6) (v := ?_) rfl (by kernel_rfl) (by kernel_rfl) (by kernel_rfl) (N := 8) (by kernel_rfl) (by kernel_rfl) (by kernel_rfl) (fun _ _ _ h => h) (Or.inl ⟨by rfl, ?_⟩) hHeld ?_
      rotate_left 1
      · intro w hSw
        go_simp
        try with_reducible rfl
      show anyK _ _ _ _ _ _ _ _ (Act.put _ (some 23) _) _
      simp only [Act.put, List.setIfInBounds_toArray, List.set_cons_zero, List.set_cons_succ]
      clear hHeld
      refine anyK_one (i := 7) (by kernel_rfl) rfl (fun Kk hKk => ?_)
      go_simp
      (go_at_call 11; refine (HCp.out _ hE0d).mono ?_; rintro e w4 ⟨⟨a3, c3, a5, c5, rfl, O4⟩, hx4⟩; have he4 : Ext wr w4 := hE0d.trans hx4)
      go_wp2_with fail
      refine hKk.out _ _ (fun _ => ⟨cell_ext v0 he4, cell_ext v2 he4, cell_ext e0 he4, cell_ext e1 he4, cell_ext e2 he4, cell_ext e3 he4, cell_ext e4 he4, cell_ext e5 he4⟩) ?_
      clear hKk Kk
      simp only [List.setIfInBounds_toArray, List.set_cons_zero, List.set_cons_succ]
      refine anyK_one (i := 8) (by kernel_rfl) rfl (fun Kk hKk => ?_)
      go_wp2_with fail
      refine hKk.out _ _ (fun _ => ⟨cell_ext v0 (he4.trans (ext_al _ _)), cell_ext v2 (he4.trans (ext_al _ _)), cell_ext e0 (he4.trans (ext_al _ _)), cell_ext e1 (he4.trans (ext_al _ _)), cell_ext e2 (he4.trans (ext_al _ _)), cell_ext e3 (he4.trans (ext_al _ _)), cell_ext e4 (he4.trans (ext_al _ _)), cell_ext e5 (he4.trans (ext_al _ _))⟩) ?_
      clear hKk Kk
      simp only [List.setIfInBounds_toArray, List.set_cons_zero, List.set_cons_succ]
      obtain ⟨xs, ho, hzx⟩ := (Hown.out.ext he4)
      have ho5 := ho.alloc (.cells #[.int .i64 kd, .int .i64 kk', .slice a3 n1 c3, .int .i64 qq, .int .i64 bb, .slice a5 n2 c5] 37)
      obtain ⟨g, cap, w7, hrun, hown', hgrow', hcase, hglt⟩ := run_append_lies (P := Tryd.prog) (w4.alloc (.cells #[.int .i64 kd, .int .i64 kk', .slice a3 n1 c3, .int .i64 qq, .int .i64 bb, .slice a5 n2 c5] 37)) 22 22 base 37 i0 (.agg #[.int .i64 0, .int .i64 0, .slice none 0 0, .int .i64 0, .int .i64 0, .slice none 0 0]) 6 80 Tryd.underlying22 hi hz0 hz1 hz2 rfl (by decide) (.slice av i cv) (ops.take i).length xs ho5 ⟨w4.heap.size, 0, none⟩ 1 1 [.int .i64 kd, .int .i64 kk', .slice a3 n1 c3, .int .i64 qq, .int .i64 bb, .slice a5 n2 c5] rfl (new_op w4 _ _ _ _ _ _ _ _ _ _ _) (one_op _ _ _ _ _ _ _ _ _ _) (by omega) (by rw [List.length_take]; unfold maxLen; omega) (by rw [List.length_take]; omega) (by have := he4.size; simp; omega) _ rfl
      have hli : (ops.take i).length = i := by rw [List.length_take, Hl.out]; omega
      rw [hli] at hrun
      refine anyK_one (i := 9) (by kernel_rfl) rfl (fun Kk hKk => ?_)
      refine stepK_append rfl _ _ 22 rfl (.slice av i cv) (.slice (some ⟨w4.heap.size, 0, none⟩) 1 1) _ rfl rfl hrun ?_
      have hkind := PtKind ho5
      have hk7 : ∀ (b' : Nat) (cur : Array Value) (fr : Nat × Nat), (w4.alloc (.cells #[.int .i64 kd, .int .i64 kk', .slice a3 n1 c3, .int .i64 qq, .int .i64 bb, .slice a5 n2 c5] 37)).heap[b']? = some (.cells cur 3 fr) → w7.heap[b']? = (w4.alloc (.cells #[.int .i64 kd, .int .i64 kk', .slice a3 n1 c3, .int .i64 qq, .int .i64 bb, .slice a5 n2 c5] 37)).heap[b']? := fun b' cur fr hb' => by
        refine hgrow'.block b' (Array.getElem?_eq_some_iff.1 hb').1 (fun e => ?_)
        obtain ⟨_, cs, fr', e2⟩ := hkind b' e.symm
        rw [e2] at hb'
        cases hb'
      have O7 := (O4.ext (ext_al _ (.cells #[.int .i64 kd, .int .i64 kk', .slice a3 n1 c3, .int .i64 qq, .int .i64 bb, .slice a5 n2 c5] 37))).keep hgrow'.size hk7
      have own7 := OpsO.snoc hown' ho.1 hzx (fun g a1 n1 c1 a2 n2 c2 h => (h.ext (ext_al _ _)).keep hgrow'.size hk7) O7
      rw [hli] at own7
      clear hli
      have bOut7 : CiB w7 (H + 2) qb bi av i cv := ⟨(hgrow'.block _ ((Hout.out.ext he4).ext (ext_al _ _)).lt (fun e => by have := (hkind _ e.symm).1; omega)).trans ((Hout.out.ext he4).ext (ext_al _ _)).row⟩
      have x2' := bOut7.x2; have fz2 := bOut7.f 2
      have hHeld : w7.cell? ⟨H + 2, 2, none⟩ = some (.slice av i cv) ∧ w7.cell? ⟨H, 2, none⟩ = some (.slice (some ⟨b, o, none⟩) n cp) ∧ w7.cell? ⟨b, o + i * 6, none⟩ = some (.int .i64 kd) ∧ w7.cell? ⟨b, o + i * 6 + 1, none⟩ = some (.int .i64 kk') ∧ w7.cell? ⟨b, o + i * 6 + 2, none⟩ = some (.slice a1 n1 c1) ∧ w7.cell? ⟨b, o + i * 6 + 3, none⟩ = some (.int .i64 qq) ∧ w7.cell? ⟨b, o + i * 6 + 4, none⟩ = some (.int .i64 bb) ∧ w7.cell? ⟨b, o + i * 6 + 5, none⟩ = some (.slice a2 n2 c2) := ⟨x2', (CiB_grown hgrow' hkind (HC.out.ext (he4.trans (ext_al _ _))) (by omega)).x2, cell_grown hgrow' hkind e0 ((he4.trans (ext_al _ _))) HbB.out, cell_grown hgrow' hkind e1 ((he4.trans (ext_al _ _))) HbB.out, cell_grown hgrow' hkind e2 ((he4.trans (ext_al _ _))) HbB.out, cell_grown hgrow' hkind e3 ((he4.trans (ext_al _ _))) HbB.out, cell_grown hgrow' hkind e4 ((he4.trans (ext_al _ _))) HbB.out, cell_grown hgrow' hkind e5 ((he4.trans (ext_al _ _))) HbB.out⟩
      refine hKk.out _ _ (fun _ => hHeld) ?_
      clear hKk Kk
      show anyK _ _ _ _ _ _ _ _ (Act.put _ (some 26) _) _
      simp only [Act.put, List.setIfInBounds_toArray, List.set_cons_zero, List.set_cons_succ]
      refine anyK_take (i := 10) (v := ?_) rfl (by kernel_rfl) (by kernel_rfl) (by kernel_rfl) (N := 8) (by kernel_rfl) (by kernel_rfl) (by kernel_rfl) (fun _ _ _ h => h) (Or.inl ⟨by rfl, ?_⟩) hHeld ?_
      rotate_left 1
      · intro w hSw
        go_simp
        try with_reducible rfl
      show anyK _ _ _ _ _ _ _ _ (Act.put _ (some 27) _) _
      simp only [Act.put, List.setIfInBounds_toArray, List.set_cons_zero, List.set_cons_succ]
      clear hHeld
      refine anyK_one (i := 11) (by kernel_rfl) rfl (fun Kk hKk => ?_)
      refine stepK_store rfl rfl _ _ rfl (H + 2) 2 (some ⟨g, 0, none⟩) (i + 1) cap (.slice av i cv) rfl rfl x2' fz2 ?_
      refine hKk.out _ _ (fun h => Bool.noConfusion (show true = false from h)) ?_
      clear hKk Kk
      simp only [List.setIfInBounds_toArray, List.set_cons_zero, List.set_cons_succ]
      refine anyK_done (by kernel_rfl) ?_ _
      have bOut8 := bOut7.set2 (some ⟨g, 0, none⟩) (i + 1) cap
      have hOo := only1 w7 (H + 2) 2 (.slice (some ⟨g, 0, none⟩) (i + 1) cap)
      have own8 := own7.only bOut7.row (by decide) hOo (by simp) (by omega)
      have bC8 : CiB (w7.setCell ⟨H + 2, 2, none⟩ (.slice (some ⟨g, 0, none⟩) (i + 1) cap)) H qb bi (some ⟨b, o, none⟩) n cp := ⟨(hOo.block _ (by omega)).trans (CiB_grown hgrow' hkind (HC.out.ext (he4.trans (ext_al _ _))) (by omega)).row⟩
      have bR8 : CiB (w7.setCell ⟨H + 2, 2, none⟩ (.slice (some ⟨g, 0, none⟩) (i + 1) cap)) (H + 1) 0 0 none 0 0 := ⟨(hOo.block _ (by omega)).trans (CiB_grown hgrow' hkind (HR.out.ext (he4.trans (ext_al _ _))) (by omega)).row⟩
      have hE8 : Ext w (w7.setCell ⟨H + 2, 2, none⟩ (.slice (some ⟨g, 0, none⟩) (i + 1) cap)) := Below.setCell (grown_ext (HER.out.trans (he4.trans (ext_al _ _))) hgrow' (fun k hk => by have := (hkind k hk).1; have := HhH.out; omega)) (p := ⟨H + 2, 2, none⟩) (show w.heap.size ≤ H + 2 by have := HhH.out; omega) _
      have hops8 := Hops0.out.ext hE8
      have HbC8 := Lib.hid bC8; have HbR8 := Lib.hid bR8; have HbO8 := Lib.hid bOut8; have Hown8 := Lib.hid own8; have HE8 := Lib.hid hE8; have Hops8 := Lib.hid hops8
      have Hs8 : Hid (base ≤ w7.heap.size) := Nat.le_trans (Nat.le_trans hbs (he4.trans (ext_al _ _)).size) hgrow'.size
      clear bC8 bR8 bOut8 own8 hE8 hops8 own7 bOut7 O7 hk7 hkind hgrow' hown' hrun ho5 ho hzx O4 hx4 he4 hE0d v0 v2 e0 e1 e2 e3 e4 e5 x2' fz2
      go_wp2_with fail
      go_roundg (n - (i + 1))
      case measure => omega
      case rel => exact ⟨i + 1, some ⟨g, 0, none⟩, cap, by go_num, by omega, rfl, HbC8.out, HbR8.out, HbO8.out, Hops8.out, by rw [Hst.out]; exact Hown8.out, HE8.out, by simpa using Hs8.out⟩

end Go.Proofs.YtiicbcjenhfakaaDoor
namespace Go.Proofs.YtiicbcjenhfakaaDoor
open Go.RowKit

theorem stepK_storeI {ops : Array Oper} {o : Oper} {a : Act} {K : Act → World → Prop} {Q : Exit → Act → World → Prop} {E : Prop} {w : World} (hgd : o.guard = none) (hd : o.dst = none) (p x : Operand)
    (ho : o.op = .store 35 p x) (b off : Nat) (a' : Option Addr) (n' c' : Nat) (u : Value) (hp : a.eval p = .pointer (some ⟨b, off, none⟩)) (hx : a.eval x = .slice a' n' c')
    (hcell : w.cell? ⟨b, off, none⟩ = some u) (hfz : w.frozen? ⟨b, off, none⟩ = false) (h : K a (w.setCell ⟨b, off, none⟩ (.slice a' n' c'))) :
    if Region.wanted o (yielded ops a.tmps) = true then Oper.wp Tryd.prog o a w K Q else E := by
  have hw : Region.wanted o (yielded ops a.tmps) = true := by simp [Region.wanted, hgd]
  rw [if_pos hw]
  obtain ⟨od, oo, ot, opp, oa, og⟩ := o
  simp only at ho hd
  subst ho hd
  have HH := Lib.hid h
  clear h
  unfold Oper.wp execOp
  simp only [hp, hx]
  go_simp
  exact HH.out

end Go.Proofs.YtiicbcjenhfakaaDoor
namespace Go.Proofs.YtiicbcjenhfakaaDoor
open Go.RowKit

theorem CiB.set0 {W : World} {g : Nat} {qb bi : Int} {ao : Option Addr} {n cp : Nat} (h : CiB W g qb bi ao n cp) (v : Int) : CiB (W.setCell ⟨g, 0, none⟩ (.int .i64 v)) g v bi ao n cp := ⟨row_put h.row rfl⟩
theorem CiB.set1 {W : World} {g : Nat} {qb bi : Int} {ao : Option Addr} {n cp : Nat} (h : CiB W g qb bi ao n cp) (v : Int) : CiB (W.setCell ⟨g, 1, none⟩ (.int .i64 v)) g qb v ao n cp := ⟨row_put h.row rfl⟩
end Go.Proofs.YtiicbcjenhfakaaDoor
namespace Go.Proofs.YtiicbcjenhfakaaDoor
open Go.RowKit

/-- Six cells are laid from p on. -/
def set6 (cs : Array Value) (p : Nat) (f : Nat → Value) : Array Value :=
  (((((cs.setIfInBounds p (f 0)).setIfInBounds (p + 1) (f 1)).setIfInBounds (p + 2) (f 2)).setIfInBounds (p + 3) (f 3)).setIfInBounds (p + 4) (f 4)).setIfInBounds (p + 5) (f 5)
theorem set6_size (cs : Array Value) (p : Nat) (f : Nat → Value) : (set6 cs p f).size = cs.size := by simp [set6]
theorem set6_in (cs : Array Value) (p : Nat) (f : Nat → Value) (k : Nat) (hk : k < 6) (hp : p + 6 ≤ cs.size) : (set6 cs p f)[p + k]? = some (f k) := by
  have : k = 0 ∨ k = 1 ∨ k = 2 ∨ k = 3 ∨ k = 4 ∨ k = 5 := by omega
  unfold set6
  rcases this with rfl | rfl | rfl | rfl | rfl | rfl
  all_goals
    simp only [Array.getElem?_setIfInBounds, Array.size_setIfInBounds]
    repeat (first | rw [if_neg (by omega)] | rw [if_pos (by omega)] | rw [if_pos trivial])
theorem set6_out (cs : Array Value) (p : Nat) (f : Nat → Value) (q : Nat) (hq : q < p ∨ p + 6 ≤ q) : (set6 cs p f)[q]? = cs[q]? := by
  unfold set6
  simp only [Array.getElem?_setIfInBounds]
  repeat rw [if_neg (by omega)]

/-- The outer i on each side changed places. -/
def half (ops : List Gop) (i : Nat) : List Gop := ops.reverse.take i ++ ((ops.drop i).take (ops.length - 2 * i) ++ ops.reverse.drop (ops.length - i))
theorem half_len {ops : List Gop} {i : Nat} (h : 2 * i ≤ ops.length) : (half ops i).length = ops.length := by
  unfold half
  simp only [List.length_append, List.length_take, List.length_drop, List.length_reverse]
  omega
theorem half_get {ops : List Gop} {i t : Nat} (h : 2 * i ≤ ops.length) (ht : t < ops.length) : (half ops i)[t]? = if t < i ∨ ops.length - i ≤ t then ops[ops.length - 1 - t]? else ops[t]? := by
  unfold half
  by_cases h1 : t < i
  · rw [if_pos (Or.inl h1), List.getElem?_append_left (by rw [List.length_take, List.length_reverse]; omega), List.getElem?_take, if_pos h1, List.getElem?_reverse (by omega)]
  · rw [List.getElem?_append_right (by rw [List.length_take, List.length_reverse]; omega)]
    have e1 : (ops.reverse.take i).length = i := by rw [List.length_take, List.length_reverse]; omega
    rw [e1]
    by_cases h2 : ops.length - i ≤ t
    · rw [if_pos (Or.inr h2), List.getElem?_append_right (by simp only [List.length_take, List.length_drop]; omega)]
      have e2 : ((ops.drop i).take (ops.length - 2 * i)).length = ops.length - 2 * i := by simp only [List.length_take, List.length_drop]; omega
      rw [e2, List.getElem?_drop, show ops.length - i + (t - i - (ops.length - 2 * i)) = t by omega, List.getElem?_reverse (by omega)]
    · rw [if_neg (by omega), List.getElem?_append_left (by simp only [List.length_take, List.length_drop]; omega), List.getElem?_take, if_pos (by omega), List.getElem?_drop, show i + (t - i) = t by omega]
theorem half_done {ops : List Gop} {i : Nat} (h : 2 * i ≤ ops.length) (h2 : ops.length ≤ 2 * i + 1) : half ops i = ops.reverse := by
  apply List.ext_getElem?
  intro t
  by_cases ht : t < ops.length
  · rw [half_get h ht, List.getElem?_reverse ht]
    split
    · rfl
    · congr 1; omega
  · rw [List.getElem?_eq_none (by rw [half_len h]; omega), List.getElem?_eq_none (by rw [List.length_reverse]; omega)]
theorem half_zero (ops : List Gop) : half ops 0 = ops := by
  unfold half
  simp

end Go.Proofs.YtiicbcjenhfakaaDoor
namespace Go.Proofs.YtiicbcjenhfakaaDoor
open Go.RowKit

/-- The six cells of an operation. -/
def opF (g : Gop) (a1 : Option Addr) (n1 c1 : Nat) (a2 : Option Addr) (n2 c2 : Nat) : Nat → Value
  | 0 => .int .i64 g.kind
  | 1 => .int .i64 g.k
  | 2 => .slice a1 n1 c1
  | 3 => .int .i64 g.q
  | 4 => .int .i64 g.bit
  | _ => .slice a2 n2 c2
def putAt (W : World) (g p : Nat) (f : Nat → Value) : World :=
  (((((W.setCell ⟨g, p, none⟩ (f 0)).setCell ⟨g, p + 1, none⟩ (f 1)).setCell ⟨g, p + 2, none⟩ (f 2)).setCell ⟨g, p + 3, none⟩ (f 3)).setCell ⟨g, p + 4, none⟩ (f 4)).setCell ⟨g, p + 5, none⟩ (f 5)
theorem putAt_row {W : World} {g p : Nat} {cs : Array Value} {t : TypeId} (f : Nat → Value) (h : W.heap[g]? = some (.cells cs t (0, 0))) : (putAt W g p f).heap[g]? = some (.cells (set6 cs p f) t (0, 0)) :=
  row_put (row_put (row_put (row_put (row_put (row_put h rfl) rfl) rfl) rfl) rfl) rfl
theorem putAt_only (W : World) (g p : Nat) (f : Nat → Value) : Only g W (putAt W g p f) := ((((((Only.refl _ _).setCell _ _).setCell _ _).setCell _ _).setCell _ _).setCell _ _).setCell _ _
theorem putAt_size (W : World) (g p : Nat) (f : Nat → Value) : (putAt W g p f).heap.size = W.heap.size := by simp [putAt]
/-- All but the row's own block is as it was. -/
structure Rvs (v : Value) (w w' : World) : Prop where
  os : w'.os = w.os
  tape : w'.tape = w.tape
  output : w'.output = w.output
  size : w'.heap.size = w.heap.size
  block : ∀ k, v.ownBlock ≠ some k → w'.heap[k]? = w.heap[k]?
theorem Rvs.refl (v : Value) (w : World) : Rvs v w w := ⟨rfl, rfl, rfl, rfl, fun _ _ => rfl⟩
theorem Rvs.of_only {g n c : Nat} {w w' : World} (h : Only g w w') : Rvs (.slice (some ⟨g, 0, none⟩) n c) w w' := ⟨h.os, h.tape, h.output, h.size, fun k hk => h.block k (fun e => hk (by rw [e]; rfl))⟩
theorem Rvs.ext {v : Value} {w0 w w' : World} (h : Rvs v w w') (k : Ext w0 w) (hv : ∀ i, v.ownBlock = some i → w0.heap.size ≤ i) : Ext w0 w' :=
  Below.trans k ⟨h.os, h.tape, h.output, Nat.le_of_eq h.size.symm, fun i hi => h.block i (fun e => by have := hv i e; omega)⟩
theorem CiB.rvs {v : Value} {w w' : World} {g : Nat} {qb bi : Int} {ao : Option Addr} {n cp : Nat} (h : CiB w g qb bi ao n cp) (k : Rvs v w w') (hv : v.ownBlock ≠ some g) : CiB w' g qb bi ao n cp := ⟨(k.block g hv).trans h.row⟩
theorem FtB.rvs {v : Value} {w w' : World} {g : Nat} {x y : Int} (h : FtB w g x y) (k : Rvs v w w') (hv : v.ownBlock ≠ some g) : FtB w' g x y := ⟨(k.block g hv).trans h.row⟩
theorem Only.drewn {g : Nat} {w w' : World} (h : Only g w w') : Only g w w'.drew := ⟨h.os, h.tape, h.output, h.size, h.block⟩
end Go.Proofs.YtiicbcjenhfakaaDoor
namespace Go.Proofs.YtiicbcjenhfakaaDoor
open Go.RowKit

/-- A circuit into one variable, a fault into another. -/
def putCF (W : World) (g gf : Nat) (q b : Int) (a : Option Addr) (n c : Nat) (u v : Int) : World :=
  ((((W.setCell ⟨g, 0, none⟩ (.int .i64 q)).setCell ⟨g, 1, none⟩ (.int .i64 b)).setCell ⟨g, 2, none⟩ (.slice a n c)).setCell ⟨gf, 0, none⟩ (.int .i64 u)).setCell ⟨gf, 1, none⟩ (.int .i64 v)
theorem putCF_C {W : World} {g gf : Nat} {q0 b0 : Int} {a0 : Option Addr} {n0 c0 : Nat} (h : CiB W g q0 b0 a0 n0 c0) (hne : g ≠ gf) (q b : Int) (a : Option Addr) (n c : Nat) (u v : Int) : CiB (putCF W g gf q b a n c u v) g q b a n c :=
  ⟨row_far (row_far (((h.set0 q).set1 b).set2 a n c).row (by omega)) (by omega)⟩
theorem putCF_F {W : World} {g gf : Nat} {u0 v0 : Int} (h : FtB W gf u0 v0) (hne : g ≠ gf) (q b : Int) (a : Option Addr) (n c : Nat) (u v : Int) : FtB (putCF W g gf q b a n c u v) gf u v :=
  ⟨row_put (row_put (row_far (row_far (row_far h.row (by omega)) (by omega)) (by omega)) rfl) rfl⟩
theorem putCF_ext {w W : World} {g gf : Nat} (h : Ext w W) (hg : w.heap.size ≤ g) (hf : w.heap.size ≤ gf) (q b : Int) (a : Option Addr) (n c : Nat) (u v : Int) : Ext w (putCF W g gf q b a n c u v) :=
  cput (o := 1) (cput (o := 0) (cput (o := 2) (cput (o := 1) (cput (o := 0) h hg _) hg _) hg _) hf _) hf _
theorem CiB.drew {W : World} {g : Nat} {qb bi : Int} {ao : Option Addr} {n cp : Nat} (h : CiB W g qb bi ao n cp) : CiB W.drew g qb bi ao n cp := ⟨h.row⟩
theorem FtB.drew {W : World} {g : Nat} {u v : Int} (h : FtB W g u v) : FtB W.drew g u v := ⟨h.row⟩

end Go.Proofs.YtiicbcjenhfakaaDoor
namespace Go.Proofs.YtiicbcjenhfakaaDoor
open Go.RowKit

def opp (k : Int) : Int := (16 - k).tmod 16
/-- An operation undone. -/
def undoO (g : Gop) : Gop := { g with k := opp g.k }
/-- Operations undone. -/
def invO (ops : List Gop) : List Gop := ops.reverse.map undoO
/-- The first i of them undone, in place. -/
def invF (ops : List Gop) (i : Nat) : List Gop := (ops.take i).map undoO ++ ops.drop i
theorem invF_len (ops : List Gop) (i : Nat) : (invF ops i).length = ops.length := by
  unfold invF
  simp only [List.length_append, List.length_map, List.length_take, List.length_drop]
  omega
theorem invF_get {ops : List Gop} {i t : Nat} (ht : t < ops.length) : (invF ops i)[t]? = if t < i then ops[t]?.map undoO else ops[t]? := by
  unfold invF
  by_cases h : t < i
  · rw [if_pos h, List.getElem?_append_left (by rw [List.length_map, List.length_take]; omega), List.getElem?_map, List.getElem?_take, if_pos h]
  · rw [if_neg h, List.getElem?_append_right (by rw [List.length_map, List.length_take]; omega), List.length_map, List.length_take, List.getElem?_drop]
    congr 1; omega
theorem invF_zero (ops : List Gop) : invF ops 0 = ops := by simp [invF]
theorem invF_all {ops : List Gop} {i : Nat} (h : ops.length ≤ i) : invF ops i = ops.map undoO := by
  unfold invF
  rw [List.take_of_length_le h, List.drop_eq_nil_of_le h, List.append_nil]
theorem pur_zero {c : Gci} (h : (pur c).1 = 0) : (chk c).1 = 0 ∧ pur c = (0, 0) := by
  have key : ∀ (l : List Gop) (i : Nat), (purF i l).1 = 0 → purF i l = (0, 0) := by
    intro l
    induction l with
    | nil => intro i _; rfl
    | cons o r ih =>
      intro i h
      rw [purF] at h ⊢
      by_cases hc : 5 ≤ o.kind ∨ 0 < o.cnd.length
      · rw [if_pos hc] at h; exact absurd h (show ¬ (15 : Int) = 0 by decide)
      · rw [if_neg hc] at h ⊢; exact ih _ h
  unfold pur at h ⊢
  by_cases hc : (chk c).1 ≠ 0
  · rw [if_pos hc] at h; exact absurd h hc
  · rw [if_neg hc] at h ⊢; exact ⟨by omega, key _ _ h⟩

theorem opposite_any (k : Int) (w : World) (h0 : 0 ≤ k) (h1 : k ≤ 16) : Calls Tryd.prog 54 #[.int .i64 k] w fun e w' => e = .returned (.int .i64 (opp k)) ∧ w' = w := by
  obtain ⟨r, hr⟩ : ∃ r, opp k = r := ⟨_, rfl⟩
  rw [hr]
  unfold opp at hr
  obtain ⟨d, hd⟩ : ∃ d, 16 - k = d := ⟨_, rfl⟩
  rw [hd] at hr
  have w1 : IntKind.i64.wrap (16 - k) = d := by rw [IntKind.wrap_i64]; omega
  have hdr : d.tmod 16 = r := hr
  have w2 : IntKind.i64.wrap (d.tmod 16) = r := by
    rw [hdr, IntKind.wrap_i64]
    have : 0 ≤ r ∧ r < 16 := by rw [← hr]; exact ⟨Int.tmod_nonneg _ (by omega), Int.tmod_lt_of_pos _ (by omega)⟩
    omega
  clear hr hd
  go_enter Tryd.func54, Tryd.ntmps54
  go_wp2_with fail
  go_ret
  exact ⟨rfl, rfl⟩

theorem stepK_storeN {ops : Array Oper} {o : Oper} {a : Act} {K : Act → World → Prop} {Q : Exit → Act → World → Prop} {E : Prop} {w : World} (hgd : o.guard = none) (hd : o.dst = none) (p x : Operand)
    (ho : o.op = .store 3 p x) (b off : Nat) (z : Int) (u : Value) (hp : a.eval p = .pointer (some ⟨b, off, none⟩)) (hx : a.eval x = .int .i64 z)
    (hcell : w.cell? ⟨b, off, none⟩ = some u) (hfz : w.frozen? ⟨b, off, none⟩ = false) (h : K a (w.setCell ⟨b, off, none⟩ (.int .i64 z))) :
    if Region.wanted o (yielded ops a.tmps) = true then Oper.wp Tryd.prog o a w K Q else E := by
  have hw : Region.wanted o (yielded ops a.tmps) = true := by simp [Region.wanted, hgd]
  rw [if_pos hw]
  obtain ⟨od, oo, ot, opp, oa, og⟩ := o
  simp only at ho hd
  subst ho hd
  have HH := Lib.hid h
  clear h
  unfold Oper.wp execOp
  simp only [hp, hx]
  go_simp
  exact HH.out

end Go.Proofs.YtiicbcjenhfakaaDoor
namespace Go.Proofs.YtiicbcjenhfakaaDoor

def lTurn (q k : Int) (cnd : List Int) : Gop := ⟨4, (k + 16).tmod 16, [], q, 0, cnd⟩
def lFork (q : Int) : Gop := ⟨3, 0, [], q, 0, []⟩
def lFlip (q c : Int) : Gop := ⟨2, 0, [c], q, 0, []⟩
def lJoin (p q s : Int) : List Gop := [lFork s, lTurn s 2 [], lFlip s q, lTurn s 14 [], lFlip s p, lTurn s 2 [], lFlip s q, lTurn s 14 [], lFork s]
def lAround (o : Gop) : List Gop := if o.kind = 2 then [lFork o.q] else if o.kind = 3 then [lTurn o.q 4 [], lFork o.q, lTurn o.q 2 [], lFork o.q] else []
def ang (o : Gop) : Int := if o.kind = 2 ∨ o.kind = 3 then 8 else o.k
/-- How many joins are left where r qubits more are to be one. -/
def wntF (k : Int) : Nat → Nat
  | 0 => 0
  | r + 1 => if k % 2 ^ (r + 1) = 0 then 0 else wntF k r + 1
def wnt (o : Gop) : Nat := wntF (ang o) o.ctl.length
def isBas (o : Gop) : Bool := o.ctl.length == 0 || (o.ctl.length == 1 && o.kind == 2)
/-- The other qubit behind turn number i. -/
def oth (others : List Int) (i : Nat) : Int := others.getD (min (Lib.ctz 64 (i + 1)) (others.length - 1)) 0
/-- The turns of one qubit from number i on, r of them. -/
def lSums (q : Int) (others cnd : List Int) : Nat → Nat → Int → List Gop
  | 0, _, _ => []
  | r + 1, i, k => lTurn q k cnd :: (if others.length = 0 then [] else [lFlip q (oth others i)]) ++ lSums q others cnd r (i + 1) (-k)
def lAll (qs cnd : List Int) (part : Int) : Nat → List Gop
  | 0 => []
  | i + 1 => lAll qs cnd part i ++ lSums (qs.getD i 0) (qs.take i) cnd (2 ^ i) 0 part
def lJoined (sp : Int) (body : List Int → List Gop) : Nat → List Int → List Gop
  | 0, qs => body qs
  | t + 1, qs => lJoin (qs.getD 0 0) (qs.getD 1 0) (sp + t) ++ lJoined sp body t (qs.drop 2 ++ [sp + t]) ++ invO (lJoin (qs.getD 0 0) (qs.getD 1 0) (sp + t))
def lBody (k : Int) (cnd : List Int) (left : List Int) : List Gop := lAll left cnd (k / 2 ^ (left.length - 1)) left.length
def lowO (sp : Int) (o : Gop) : List Gop :=
  if isBas o then [o]
  else if ang o = 0 then []
  else lAround o ++ lJoined sp (lBody (ang o) o.cnd) (wnt o) (o.ctl ++ [o.q]) ++ invO (lAround o)
def lowA (sp : Int) (ops : List Gop) : List Gop := ops.flatMap (lowO sp)

/-- What is asked of each. -/
structure LOk (N B : Int) (g : Gop) : Prop where
  code : opCode g N B = 0
  bas : isBas g = true
section
variable {N B : Int}
theorem below_of {x n : Int} (h : 0 ≤ x ∧ x < n) : below x n = true := by unfold below; simp [h.1, h.2]
theorem lOk_turn {q k : Int} {cnd : List Int} (hq : 0 ≤ q ∧ q < N) (hk : -16 ≤ k) (hc : cndOk B cnd = true) : LOk N B (lTurn q k cnd) := by
  refine ⟨?_, rfl⟩
  have h1 : 0 ≤ (k + 16).tmod 16 ∧ (k + 16).tmod 16 < 16 := by
    rw [Int.tmod_eq_emod_of_nonneg (by omega)]
    omega
  unfold opCode lTurn
  simp only [usesK, usesQ, usesC, usesB, fitsB, ctlCode, List.length_nil]
  simp [below_of h1, below_of hq, hc]
theorem cndOk_nil (_hB : True) : cndOk B [] = true := by unfold cndOk; simp
theorem lOk_fork {q : Int} (hq : 0 ≤ q ∧ q < N) : LOk N B (lFork q) := by
  refine ⟨?_, rfl⟩
  unfold opCode lFork
  simp only [usesK, usesQ, usesC, usesB, fitsB, ctlCode, List.length_nil]
  simp [below_of hq, cndOk_nil trivial]
theorem lOk_flip {q c : Int} (hq : 0 ≤ q ∧ q < N) (hc : 0 ≤ c ∧ c < N) (hne : c ≠ q) : LOk N B (lFlip q c) := by
  refine ⟨?_, rfl⟩
  unfold opCode lFlip
  simp only [usesK, usesQ, usesC, usesB, fitsB, ctlCode, List.length_cons, List.length_nil]
  simp [below_of hq, below_of hc, cndOk_nil trivial, hne]
/-- Undone it is as good. -/
theorem opp_rngL {k : Int} (h : 0 ≤ k ∧ k < 16) : 0 ≤ opp k ∧ opp k < 16 := by
  unfold opp
  rw [Int.tmod_eq_emod_of_nonneg (by omega)]
  omega
theorem lOk_undo {g : Gop} (h : LOk N B g) (_hk : g.kind = 2 ∨ g.kind = 3 ∨ g.kind = 4) : LOk N B (undoO g) := by
  obtain ⟨h1, h2⟩ := h
  refine ⟨?_, h2⟩
  unfold opCode at h1 ⊢
  by_cases a1 : g.kind < 1 ∨ 6 < g.kind
  · omega
  rw [if_neg a1] at h1
  show (if g.kind < 1 ∨ 6 < g.kind then (8 : Int) else _) = 0
  rw [if_neg a1]
  by_cases a2 : fitsB g.k 16 (usesK g.kind) = false
  · rw [if_pos a2] at h1; omega
  rw [if_neg a2] at h1
  have a2' : ¬ fitsB (undoO g).k 16 (usesK (undoO g).kind) = false := by
    show ¬ fitsB (opp g.k) 16 (usesK g.kind) = false
    have h3 : fitsB g.k 16 (usesK g.kind) = true := by simpa using a2
    have : fitsB (opp g.k) 16 (usesK g.kind) = true := by
      unfold fitsB at h3 ⊢
      split
      · rename_i hu
        rw [if_pos hu] at h3
        exact below_of (opp_rngL (by
          unfold below at h3
          simp only [Bool.and_eq_true, decide_eq_true_eq] at h3
          exact h3))
      · rename_i hu
        rw [if_neg hu] at h3
        have : g.k = 0 := by simpa using h3
        rw [this]
        decide
    simp [this]
  rw [if_neg a2']
  exact h1
theorem kind_join {p q s : Int} {g : Gop} (h : g ∈ lJoin p q s) : g.kind = 2 ∨ g.kind = 3 ∨ g.kind = 4 := by
  unfold lJoin at h
  simp only [List.mem_cons, List.not_mem_nil, or_false] at h
  rcases h with rfl | rfl | rfl | rfl | rfl | rfl | rfl | rfl | rfl <;> simp [lFork, lTurn, lFlip]
theorem kind_around {o g : Gop} (h : g ∈ lAround o) : g.kind = 2 ∨ g.kind = 3 ∨ g.kind = 4 := by
  unfold lAround at h
  split at h
  · simp only [List.mem_cons, List.not_mem_nil, or_false] at h
    rw [h]; simp [lFork]
  · split at h
    · simp only [List.mem_cons, List.not_mem_nil, or_false] at h
      rcases h with rfl | rfl | rfl | rfl <;> simp [lFork, lTurn]
    · simp at h
theorem lOk_join {p q s : Int} (hp : 0 ≤ p ∧ p < N) (hq : 0 ≤ q ∧ q < N) (hs : 0 ≤ s ∧ s < N) (h1 : p ≠ s) (h2 : q ≠ s) : ∀ g ∈ lJoin p q s, LOk N B g := by
  intro g h
  unfold lJoin at h
  simp only [List.mem_cons, List.not_mem_nil, or_false] at h
  rcases h with rfl | rfl | rfl | rfl | rfl | rfl | rfl | rfl | rfl
  · exact lOk_fork hs
  · exact lOk_turn hs (by decide) (cndOk_nil trivial)
  · exact lOk_flip hs hq h2
  · exact lOk_turn hs (by decide) (cndOk_nil trivial)
  · exact lOk_flip hs hp h1
  · exact lOk_turn hs (by decide) (cndOk_nil trivial)
  · exact lOk_flip hs hq h2
  · exact lOk_turn hs (by decide) (cndOk_nil trivial)
  · exact lOk_fork hs
theorem lOk_around {o : Gop} (hq : 0 ≤ o.q ∧ o.q < N) : ∀ g ∈ lAround o, LOk N B g := by
  intro g h
  unfold lAround at h
  split at h
  · simp only [List.mem_cons, List.not_mem_nil, or_false] at h
    rw [h]; exact lOk_fork hq
  · split at h
    · simp only [List.mem_cons, List.not_mem_nil, or_false] at h
      rcases h with rfl | rfl | rfl | rfl
      · exact lOk_turn hq (by decide) (cndOk_nil trivial)
      · exact lOk_fork hq
      · exact lOk_turn hq (by decide) (cndOk_nil trivial)
      · exact lOk_fork hq
    · simp at h
theorem lOk_inv {l : List Gop} (h : ∀ g ∈ l, LOk N B g) (hk : ∀ g ∈ l, g.kind = 2 ∨ g.kind = 3 ∨ g.kind = 4) : ∀ g ∈ invO l, LOk N B g := by
  intro g hg
  unfold invO at hg
  obtain ⟨x, hx, rfl⟩ := List.mem_map.1 hg
  have hx' := List.mem_reverse.1 hx
  exact lOk_undo (h x hx') (hk x hx')
theorem oth_mem {others : List Int} (h : others.length ≠ 0) (i : Nat) : oth others i ∈ others := by
  unfold oth
  have hl : min (Lib.ctz 64 (i + 1)) (others.length - 1) < others.length := by omega
  rw [List.getD_eq_getElem?_getD, List.getElem?_eq_getElem hl]
  exact List.getElem_mem hl
theorem lOk_sums {q : Int} {others cnd : List Int} (hq : 0 ≤ q ∧ q < N) (ho : ∀ c ∈ others, (0 ≤ c ∧ c < N) ∧ c ≠ q) (hc : cndOk B cnd = true) : ∀ (r i : Nat) (k : Int), -16 ≤ k ∧ k ≤ 16 → ∀ g ∈ lSums q others cnd r i k, LOk N B g
  | 0, _, _, _, g, h => by simp [lSums] at h
  | r + 1, i, k, hk, g, h => by
    unfold lSums at h
    simp only [List.mem_cons, List.mem_append] at h
    rcases h with (rfl | h) | h
    · exact lOk_turn hq (by omega) hc
    · split at h
      · simp at h
      · rename_i hl
        simp only [List.mem_cons, List.not_mem_nil, or_false] at h
        rw [h]
        have := ho _ (oth_mem hl i)
        exact lOk_flip hq this.1 this.2
    · exact lOk_sums hq ho hc r (i + 1) (-k) (by omega) g h
theorem nodup_take {l : List Int} (h : l.Nodup) {i : Nat} (hi : i < l.length) : ∀ c ∈ l.take i, c ≠ l.getD i 0 := by
  intro c hc e
  have h1 : l.take (i + 1) = l.take i ++ [l[i]] := by rw [List.take_add_one, List.getElem?_eq_getElem hi]; rfl
  have h2 : (l.take (i + 1)).Nodup := h.sublist (List.take_sublist _ _)
  rw [h1] at h2
  have h3 := (List.nodup_append.1 h2).2.2 c hc l[i] (by simp)
  rw [List.getD_eq_getElem?_getD, List.getElem?_eq_getElem hi] at e
  exact h3 e
theorem lOk_all {qs cnd : List Int} {part : Int} (hn : qs.Nodup) (hr : ∀ c ∈ qs, 0 ≤ c ∧ c < N) (hc : cndOk B cnd = true) (hp : -16 ≤ part ∧ part ≤ 16) : ∀ i, i ≤ qs.length → ∀ g ∈ lAll qs cnd part i, LOk N B g
  | 0, _, g, h => by simp [lAll] at h
  | i + 1, hi, g, h => by
    unfold lAll at h
    rcases List.mem_append.1 h with h | h
    · exact lOk_all hn hr hc hp i (by omega) g h
    · have hil : i < qs.length := by omega
      have hm : qs.getD i 0 ∈ qs := by
        rw [List.getD_eq_getElem?_getD, List.getElem?_eq_getElem hil]
        exact List.getElem_mem hil
      exact lOk_sums (hr _ hm) (fun c hcm => ⟨hr c (List.mem_of_mem_take hcm), nodup_take hn hil c hcm⟩) hc (2 ^ i) 0 part hp g h
/-- Each of what joined makes. -/
theorem lOk_joined {sp : Int} {body : List Int → List Gop} (hs : 0 ≤ sp) (hb : ∀ qs : List Int, qs.Nodup → (∀ c ∈ qs, 0 ≤ c ∧ c < N) → ∀ g ∈ body qs, LOk N B g) :
    ∀ (t : Nat) (qs : List Int), sp + t ≤ N → t < qs.length → qs.Nodup → (∀ c ∈ qs, (0 ≤ c ∧ c < N) ∧ (c < sp ∨ sp + t ≤ c)) → ∀ g ∈ lJoined sp body t qs, LOk N B g
  | 0, qs, _, _, hn, hr, g, h => hb qs hn (fun c hc => (hr c hc).1) g h
  | t + 1, qs, hN, hl, hn, hr, g, h => by
    match qs, hl, hn, hr, h with
    | p :: q :: r, hl, hn, hr, h =>
      simp only [lJoined, List.getD_cons_zero, List.getD_cons_succ, List.drop_succ_cons, List.drop_zero] at h
      have hp := hr p (by simp); have hq := hr q (by simp)
      have hj := lOk_join (N := N) (B := B) (p := p) (q := q) (s := sp + t) hp.1 hq.1 (by omega) (by have := hp.2; omega) (by have := hq.2; omega)
      rcases List.mem_append.1 h with h | h
      · rcases List.mem_append.1 h with h | h
        · exact hj g h
        · refine lOk_joined hs hb t (r ++ [sp + t]) (by omega) (by simp at hl ⊢; omega) ?_ ?_ g h
          · have hn2 : r.Nodup := (List.nodup_cons.1 (List.nodup_cons.1 hn).2).2
            rw [List.nodup_append]
            refine ⟨hn2, by simp, fun a ha b hb' => ?_⟩
            have hb2 : b = sp + t := by simpa using hb'
            rw [hb2]
            have := (hr a (by simp [ha])).2
            omega
          · intro c hc
            rcases List.mem_append.1 hc with hc | hc
            · have := hr c (by simp [hc])
              exact ⟨this.1, by omega⟩
            · have : c = sp + t := by simpa using hc
              rw [this]
              exact ⟨by omega, Or.inr (by omega)⟩
      · exact lOk_inv hj (fun g hg => kind_join hg) g h
    | [_], hl, _, _, _ => simp at hl
    | [], hl, _, _, _ => simp at hl
end
/-! How many there are. -/
theorem len_inv (l : List Gop) : (invO l).length = l.length := by unfold invO; simp
theorem len_joined (sp : Int) (body : List Int → List Gop) : ∀ (t : Nat) (qs : List Int), t < qs.length → ∃ l : List Int, l.length = qs.length - t ∧ (lJoined sp body t qs).length = 18 * t + (body l).length
  | 0, qs, _ => ⟨qs, rfl, by simp [lJoined]⟩
  | t + 1, qs, hl => by
    obtain ⟨l, h1, h2⟩ := len_joined sp body t (qs.drop 2 ++ [sp + t]) (by simp; omega)
    refine ⟨l, by rw [h1]; simp; omega, ?_⟩
    simp only [lJoined, List.length_append, h2, len_inv]
    simp only [lJoin, List.length_cons, List.length_nil]
    omega
theorem len_sums (q : Int) (others cnd : List Int) : ∀ (r i : Nat) (k : Int), (lSums q others cnd r i k).length = if others.length = 0 then r else 2 * r
  | 0, _, _ => by simp [lSums]
  | r + 1, i, k => by
    simp only [lSums, List.length_append, List.length_cons, len_sums q others cnd r (i + 1) (-k)]
    split
    · simp; omega
    · simp; omega
theorem len_all (qs cnd : List Int) (part : Int) : ∀ i, i ≤ qs.length → (lAll qs cnd part i).length ≤ 4 * 2 ^ i ∧ (i = 0 → (lAll qs cnd part i).length = 0) ∧ (i = 1 → (lAll qs cnd part i).length = 1)
  | 0, _ => by simp [lAll]
  | i + 1, hi => by
    obtain ⟨h1, h2, h3⟩ := len_all qs cnd part i (by omega)
    simp only [lAll, List.length_append, len_sums, List.length_take]
    have hm : min i qs.length = i := by omega
    rw [hm]
    by_cases e : i = 0
    · subst e
      simp [lAll]
    · rw [if_neg e]
      refine ⟨by rw [Nat.pow_succ]; omega, by omega, by omega⟩
/-- The sum proper, where r qubits are left. -/
theorem wntF_le (k : Int) : ∀ L, wntF k L ≤ L
  | 0 => Nat.le_refl _
  | r + 1 => by
    unfold wntF
    split
    · exact Nat.zero_le _
    · exact Nat.succ_le_succ (wntF_le k r)
theorem wntF_div (k : Int) : ∀ L, k % 2 ^ (L - wntF k L) = 0
  | 0 => by simp [wntF, Int.emod_one]
  | r + 1 => by
    unfold wntF
    split
    · rename_i h; exact h
    · have := wntF_div k r
      rw [show r + 1 - (wntF k r + 1) = r - wntF k r by omega]
      exact this
end Go.Proofs.YtiicbcjenhfakaaDoor
