/-
  A copy of a circuit. The reference reads a line loosely. The reader: a circuit, read. Operations turned round in place. slices.Reverse of operations. A circuit that has a fault is not answered; what the deferred closure makes of a reader that gave up. The program's Inverse. The reference's Parse of any text that is not too long. The program's Inverse: the walk. The program's Power of a pure circuit: rows that hold copies of operations whose lists lie elsewhere. Circuits undone, in plain lists: twice undone is itself; what is pure stays so. Lists and operations whose memory is their own: no two of them lie in one block.
-/
import Derived.Test.YthgmlhddanbbpaaDoorProg
import Derived.Test.YthgmlhddanbbpaaDoorRows
import Derived.BigQuiet
import Derived.Deep.AppendLies
import Derived.Deep.Cut
import Derived.Deep.CutRange
import Derived.Deep.LoopGhost
import Derived.Deep.QuietTactic
import Derived.Deep.RegionHeld3
import Derived.Defers
import Derived.Ground.Names2Prog
import Derived.Laws.Bits64b
import Derived.Laws.Concat
import Derived.Laws.CopyOwn
import Derived.Laws.IdiomStrings
import Derived.Laws.ResultCell
import Derived.Lib.AppendStr
import Derived.Lib.BitFns
import Derived.Lib.Hide
import Derived.Lib.ItoaMem
import Derived.Lib.ItoaNum
import Derived.Lib.Strings
import Derived.Maps.AppendAt
import Derived.OwnWalk
import Derived.Recover
import Derived.Shelf.Slices.Clone
import Derived.Shelf.Slices.Turned
import Derived.Shelf.Spec.TrailingZeros
import Derived.WalkKit
import Derived.WalkLawsBesides
import Derived.WalkSpells
import Derived.Test.YthgmlhddanbbpaaDoorS00Mem
import Derived.Test.YthgmlhddanbbpaaDoorShelf
import Derived.Test.YthgmlhddanbbpaaDoorS02ZCq
import Derived.Test.YthgmlhddanbbpaaDoorS03Uaq
import Derived.Test.YthgmlhddanbbpaaDoorS06Xlq
import Derived.Test.YthgmlhddanbbpaaDoorS07Cn
import Derived.Test.YthgmlhddanbbpaaDoorS08Di
namespace Go.Proofs.YthgmlhddanbbpaaDoor
open Go.RowKit

theorem op_info : (Tryd.prog.info? 51).map (fun i => (i.zero, i.size, i.bytes)) = some (some (.agg #[.int .i64 0, .int .i64 0, .slice none 0 0, .int .i64 0, .int .i64 0, .slice none 0 0]), 6, 80) := by kernel_rfl

/-- Operations whose lists are their own, in a slice of the call's own. -/
def OpsO (w : World) (base : Nat) (v : Value) (ops : List Gop) : Prop :=
  ∃ xs : List Value, w.ownsRow base 51 6 v ops.length xs ∧ ∀ t g, ops[t]? = some g → ∃ (a1 : Option Addr) (n1 c1 : Nat) (a2 : Option Addr) (n2 c2 : Nat),
    xs[t * 6]? = some (.int .i64 g.kind) ∧ xs[t * 6 + 1]? = some (.int .i64 g.k) ∧ xs[t * 6 + 2]? = some (.slice a1 n1 c1) ∧ xs[t * 6 + 3]? = some (.int .i64 g.q) ∧ xs[t * 6 + 4]? = some (.int .i64 g.bit) ∧ xs[t * 6 + 5]? = some (.slice a2 n2 c2) ∧ OpO w g a1 n1 c1 a2 n2 c2
theorem OpsO.nil (w : World) (base : Nat) : OpsO w base (.slice none 0 0) [] := ⟨[], ⟨rfl, Or.inl ⟨rfl, rfl⟩⟩, fun t g h => by simp at h⟩
theorem own_keep {w w' : World} {base : Nat} {e : TypeId} {size : Nat} {v : Value} {n : Nat} {xs : List Value} (h : w.ownsRow base e size v n xs) (hk : ∀ (g : Nat) (cur : Array Value), base ≤ g → w.heap[g]? = some (.cells cur e (0, 0)) → w'.heap[g]? = w.heap[g]?) : w'.ownsRow base e size v n xs := by
  refine ⟨h.1, ?_⟩
  rcases h.2 with h | ⟨g, cap, cur, hv, hb, hg, rest⟩
  · exact Or.inl h
  · exact Or.inr ⟨g, cap, cur, hv, hb, (hk g cur hb hg).trans hg, rest⟩
theorem OpsO.ext {w w' : World} {base : Nat} {v : Value} {ops : List Gop} (h : OpsO w base v ops) (k : Ext w w') : OpsO w' base v ops := by
  obtain ⟨xs, h1, h2⟩ := h
  refine ⟨xs, own_keep h1 (fun g cur _ hg => k.block g (Array.getElem?_eq_some_iff.1 hg).1), fun t g hg => ?_⟩
  obtain ⟨a1, n1, c1, a2, n2, c2, e0, e1, e2, e3, e4, e5, e6⟩ := h2 t g hg
  exact ⟨a1, n1, c1, a2, n2, c2, e0, e1, e2, e3, e4, e5, e6.ext k⟩
/-- Written elsewhere, in a block of another kind, or one that is older. -/
theorem OpsO.only {w w' : World} {base k : Nat} {v : Value} {ops : List Gop} {cs : Array Value} {T : TypeId} {fr : Nat × Nat} (h : OpsO w base v ops) (hk : w.heap[k]? = some (.cells cs T fr)) (hT : T ≠ 3) (hO : Only k w w') (hs : w.heap.size ≤ w'.heap.size) (hb : k < base) : OpsO w' base v ops := by
  obtain ⟨xs, h1, h2⟩ := h
  refine ⟨xs, own_keep h1 (fun g cur hg _ => hO.block g (by omega)), fun t g hg => ?_⟩
  obtain ⟨a1, n1, c1, a2, n2, c2, e0, e1, e2, e3, e4, e5, e6⟩ := h2 t g hg
  exact ⟨a1, n1, c1, a2, n2, c2, e0, e1, e2, e3, e4, e5, e6.keep hs (only_ints hk hT hO)⟩
theorem OpsO.at {w : World} {base : Nat} {v : Value} {ops : List Gop} (h : OpsO w base v ops) : ∃ (a : Option Addr) (c : Nat), v = .slice a ops.length c ∧ ops.length ≤ c ∧ c ≤ maxLen ∧ OpsAt w a ops.length ops := by
  obtain ⟨xs, h1, h2⟩ := h
  rcases h1.2 with ⟨rfl, h0⟩ | ⟨g, cap, cur, hv, hb, hg, hn, hcm, _, htk⟩
  · rw [h0]
    exact ⟨none, 0, rfl, Nat.le_refl _, Nat.zero_le _, h0, Or.inl rfl⟩
  · refine ⟨some ⟨g, 0, none⟩, cap, hv, hn, hcm, rfl, Or.inr ⟨g, 0, rfl, (Array.getElem?_eq_some_iff.1 hg).1, fun t gg hgg => ?_⟩⟩
    obtain ⟨a1, n1, c1, a2, n2, c2, e0, e1, e2, e3, e4, e5, e6⟩ := h2 t gg hgg
    have ht := (List.getElem?_eq_some_iff.1 hgg).1
    have hc : ∀ j, j < ops.length * 6 → w.cell? ⟨g, 0 + j, none⟩ = xs[j]? := by
      intro j hj
      rw [Nat.zero_add, cell_of_row w g j cur _ (0, 0) hg, ← Array.getElem?_toList, ← htk, List.getElem?_take, if_pos hj]
    exact ⟨a1, n1, c1, a2, n2, c2, by rw [hc _ (by omega)]; exact e0, by rw [Nat.add_assoc, hc _ (by omega)]; exact e1, by rw [Nat.add_assoc, hc _ (by omega)]; exact e2, by rw [Nat.add_assoc, hc _ (by omega)]; exact e3, by rw [Nat.add_assoc, hc _ (by omega)]; exact e4, by rw [Nat.add_assoc, hc _ (by omega)]; exact e5, e6.l⟩
/-- One more behind them. -/
theorem OpsO.snoc {w w' : World} {base : Nat} {v' : Value} {ops : List Gop} {xs : List Value} {g : Gop} {a1 : Option Addr} {n1 c1 : Nat} {a2 : Option Addr} {n2 c2 : Nat}
    (h1 : w'.ownsRow base 51 6 v' (ops.length + 1) (xs ++ [.int .i64 g.kind, .int .i64 g.k, .slice a1 n1 c1, .int .i64 g.q, .int .i64 g.bit, .slice a2 n2 c2])) (hx : xs.length = ops.length * 6)
    (h2 : ∀ t g, ops[t]? = some g → ∃ (a1 : Option Addr) (n1 c1 : Nat) (a2 : Option Addr) (n2 c2 : Nat), xs[t * 6]? = some (.int .i64 g.kind) ∧ xs[t * 6 + 1]? = some (.int .i64 g.k) ∧ xs[t * 6 + 2]? = some (.slice a1 n1 c1) ∧ xs[t * 6 + 3]? = some (.int .i64 g.q) ∧ xs[t * 6 + 4]? = some (.int .i64 g.bit) ∧ xs[t * 6 + 5]? = some (.slice a2 n2 c2) ∧ OpO w g a1 n1 c1 a2 n2 c2)
    (hk : ∀ (g : Gop) (a1 : Option Addr) (n1 c1 : Nat) (a2 : Option Addr) (n2 c2 : Nat), OpO w g a1 n1 c1 a2 n2 c2 → OpO w' g a1 n1 c1 a2 n2 c2) (hO : OpO w' g a1 n1 c1 a2 n2 c2) : OpsO w' base v' (ops ++ [g]) := by
  have hl : (ops ++ [g]).length = ops.length + 1 := by simp
  refine ⟨_, by rw [hl]; exact h1, fun t gg hgg => ?_⟩
  have ht := (List.getElem?_eq_some_iff.1 hgg).1
  rw [hl] at ht
  by_cases e : t = ops.length
  · subst e
    rw [List.getElem?_append_right (Nat.le_refl _), Nat.sub_self] at hgg
    cases hgg
    have hr : ∀ j, (xs ++ [.int .i64 g.kind, .int .i64 g.k, .slice a1 n1 c1, .int .i64 g.q, .int .i64 g.bit, .slice a2 n2 c2])[ops.length * 6 + j]? = ([.int .i64 g.kind, .int .i64 g.k, .slice a1 n1 c1, .int .i64 g.q, .int .i64 g.bit, .slice a2 n2 c2] : List Value)[j]? := fun j => by
      rw [List.getElem?_append_right (by omega), hx, Nat.add_sub_cancel_left]
    exact ⟨a1, n1, c1, a2, n2, c2, hr 0, hr 1, hr 2, hr 3, hr 4, hr 5, hO⟩
  · rw [List.getElem?_append_left (by omega)] at hgg
    obtain ⟨b1, m1, d1, b2, m2, d2, e0, e1, e2, e3, e4, e5, e6⟩ := h2 t gg hgg
    have hr : ∀ j, j < 6 → (xs ++ [.int .i64 g.kind, .int .i64 g.k, .slice a1 n1 c1, .int .i64 g.q, .int .i64 g.bit, .slice a2 n2 c2])[t * 6 + j]? = xs[t * 6 + j]? := fun j hj => List.getElem?_append_left (by omega)
    exact ⟨b1, m1, d1, b2, m2, d2, (hr 0 (by omega)).trans e0, (hr 1 (by omega)).trans e1, (hr 2 (by omega)).trans e2, (hr 3 (by omega)).trans e3, (hr 4 (by omega)).trans e4, (hr 5 (by omega)).trans e5, hk _ _ _ _ _ _ _ e6⟩
theorem PtKind {w : World} {base n size : Nat} {v : Value} {xs : List Value} {e : TypeId} (h : w.ownsRow base e size v n xs) : ∀ k, v.ownBlock = some k → base ≤ k ∧ ∃ cs fr, w.heap[k]? = some (.cells cs e fr) := by
  intro k hk
  rcases h.2 with ⟨rfl, _⟩ | ⟨g, cap, cur, rfl, hb, hg, _⟩
  · simp [Value.ownBlock] at hk
  · simp [Value.ownBlock] at hk
    subst hk
    exact ⟨hb, cur, (0, 0), hg⟩
theorem new_op (w : World) (k0 k1 : Int) (a1 : Option Addr) (n1 c1 : Nat) (k3 k4 : Int) (a2 : Option Addr) (n2 c2 : Nat) (e : TypeId) : ∀ j u, ([.int .i64 k0, .int .i64 k1, .slice a1 n1 c1, .int .i64 k3, .int .i64 k4, .slice a2 n2 c2] : List Value)[j]? = some u → (w.alloc (.cells #[.int .i64 k0, .int .i64 k1, .slice a1 n1 c1, .int .i64 k3, .int .i64 k4, .slice a2 n2 c2] e)).cell? ((⟨w.heap.size, 0, none⟩ : Addr).add j) = some u := by
  intro j u hu
  have hadd : (⟨w.heap.size, 0, none⟩ : Addr).add j = ⟨w.heap.size, j, none⟩ := by unfold Addr.add; split <;> simp_all
  rw [hadd, cell_of_row _ _ j _ _ (0, 0) (heap_alloc_new w _)]
  simpa using hu
theorem one_op (k0 k1 : Int) (a1 : Option Addr) (n1 c1 : Nat) (k3 k4 : Int) (a2 : Option Addr) (n2 c2 : Nat) : ∀ u ∈ ([.int .i64 k0, .int .i64 k1, .slice a1 n1 c1, .int .i64 k3, .int .i64 k4, .slice a2 n2 c2] : List Value), u.oneCell' = true := by
  intro u hu
  simp only [List.mem_cons, List.not_mem_nil, or_false] at hu
  rcases hu with rfl | rfl | rfl | rfl | rfl | rfl <;> rfl
theorem stepK_append {ops : Array Oper} {o : Oper} {a : Act} {K : Act → World → Prop} {Q : Exit → Act → World → Prop} {E : Prop} {w w' : World} (hgd : o.guard = none) (s x : Operand) (t : TypeId)
    (ho : o.op = .call { callee := .builtin .append, args := #[s, x], argTypes := #[t, t] }) (v1 v2 r : Value) (hs : a.eval s = v1) (hx : a.eval x = v2)
    (hap : (Builtin.append_ #[t, t] o.type #[v1, v2]).run Tryd.prog w = .ok r w') (h : K (a.put o.dst r) w') :
    if Region.wanted o (yielded ops a.tmps) = true then Oper.wp Tryd.prog o a w K Q else E := by
  have hw : Region.wanted o (yielded ops a.tmps) = true := by simp [Region.wanted, hgd]
  rw [if_pos hw]
  unfold Oper.wp execOp
  simp only [ho, resolve, invoke, builtin, Sem.run_bind, Sem.run_pure, Result.andThen_ok, List.map_toArray, List.map_cons, List.map_nil, hs, hx, hap]
  exact h
set_option maxHeartbeats 400000 in
theorem stepK_store {ops : Array Oper} {o : Oper} {a : Act} {K : Act → World → Prop} {Q : Exit → Act → World → Prop} {E : Prop} {w : World} (hgd : o.guard = none) (hd : o.dst = none) (p x : Operand)
    (ho : o.op = .store 22 p x) (b off : Nat) (a' : Option Addr) (n' c' : Nat) (u : Value) (hp : a.eval p = .pointer (some ⟨b, off, none⟩)) (hx : a.eval x = .slice a' n' c')
    (hcell : w.cell? ⟨b, off, none⟩ = some u) (hfz : w.frozen? ⟨b, off, none⟩ = false) (h : K a (w.setCell ⟨b, off, none⟩ (.slice a' n' c'))) :
    if Region.wanted o (yielded ops a.tmps) = true then Oper.wp Tryd.prog o a w K Q else E := by
  have hw : Region.wanted o (yielded ops a.tmps) = true := by simp [Region.wanted, hgd]
  rw [if_pos hw]
  obtain ⟨od, oo, ot, opp, oa, og⟩ := o
  simp only at ho hd
  subst ho hd
  have HH := Lib.hid h
  clear h
  unfold Oper.wp execOp
  simp only [hp, hx]
  go_simp
  exact HH.out
theorem CiB.f {W : World} {g : Nat} {qb bi : Int} {ao : Option Addr} {n cp : Nat} (h : CiB W g qb bi ao n cp) (o : Nat) : W.frozen? ⟨g, o, none⟩ = false := frozen_of_row W g o _ _ h.row
theorem CiB.set2 {W : World} {g : Nat} {qb bi : Int} {ao : Option Addr} {n cp : Nat} (h : CiB W g qb bi ao n cp) (a : Option Addr) (m c : Nat) : CiB (W.setCell ⟨g, 2, none⟩ (.slice a m c)) g qb bi a m c := ⟨heap_setCell_same W g 2 _ _ (.slice a m c) h.row⟩
theorem CiB_grown {a w' : World} {v : Value} {base g : Nat} {e : TypeId} {qb bi : Int} {ao : Option Addr} {n cp : Nat} (hg : a.grownBy w' v.ownBlock) (hk : ∀ k, v.ownBlock = some k → base ≤ k ∧ ∃ cs fr, a.heap[k]? = some (.cells cs e fr)) (h : CiB a g qb bi ao n cp) (hb : g < base) : CiB w' g qb bi ao n cp :=
  ⟨(hg.block g h.lt (fun e => by have := (hk g e.symm).1; omega)).trans h.row⟩
/-- A cell of a block that is older than the row that grows. -/
theorem cell_grown {w a w' : World} {v : Value} {base : Nat} {e : TypeId} (hg : a.grownBy w' v.ownBlock) (hk : ∀ k, v.ownBlock = some k → base ≤ k ∧ ∃ cs fr, a.heap[k]? = some (.cells cs e fr)) {b o : Nat} {u : Value} (hc : w.cell? ⟨b, o, none⟩ = some u) (hE : Ext w a) (hb : b < base) : w'.cell? ⟨b, o, none⟩ = some u := by
  have h1 := cell_ext hc hE
  exact (World.cell?_of_block (a := ⟨b, o, none⟩) (hg.block b (World.block_lt_of_cell? a ⟨b, o, none⟩ h1) (fun h => by have := (hk b h.symm).1; omega))).trans h1

set_option maxHeartbeats 8000000 in
set_option maxRecDepth 100000 in
theorem CopyCircuit_any (c : Gci) (ao : Option Addr) (n cp : Nat) (w : World) (h : OpsAt w ao n c.ops) (hbn : n * 80 ≤ 140737488355328) (hbl : ∀ g ∈ c.ops, g.ctl.length * 8 ≤ 140737488355328 ∧ g.cnd.length * 8 ≤ 140737488355328) :
    Calls Tryd.prog 5 #[.agg #[.int .i64 c.qubits, .int .i64 c.bits, .slice ao n cp]] w fun e w' => (∃ (a' : Option Addr) (c' : Nat), e = .returned (.agg #[.int .i64 c.qubits, .int .i64 c.bits, .slice a' n c']) ∧ n ≤ c' ∧ c' ≤ maxLen ∧ OpsAt w' a' n c.ops) ∧ Ext w w' := by
  obtain ⟨qb, bi, ops⟩ := c
  obtain ⟨i0, hi, hz0, hz1, hz2⟩ := info_parts op_info
  obtain ⟨H, hH⟩ : ∃ H, w.heap.size = H := ⟨_, rfl⟩
  have HhH := Lib.hid hH
  have E0 := ((ext_al w (.cells #[.int .i64 qb, .int .i64 bi, .slice ao n cp] 24)).trans (ext_al _ (.cells #[.int .i64 0, .int .i64 0, .slice none 0 0] 24))).trans (ext_al _ (.cells #[.int .i64 qb, .int .i64 bi, .slice none 0 0] 24))
  have bC : CiB (((w.alloc (.cells #[.int .i64 qb, .int .i64 bi, .slice ao n cp] 24)).alloc (.cells #[.int .i64 0, .int .i64 0, .slice none 0 0] 24)).alloc (.cells #[.int .i64 qb, .int .i64 bi, .slice none 0 0] 24)) w.heap.size qb bi ao n cp := (CiB.ext ⟨heap_alloc_new w _⟩ (ext_al _ _)).ext (ext_al _ _)
  have bR : CiB (((w.alloc (.cells #[.int .i64 qb, .int .i64 bi, .slice ao n cp] 24)).alloc (.cells #[.int .i64 0, .int .i64 0, .slice none 0 0] 24)).alloc (.cells #[.int .i64 qb, .int .i64 bi, .slice none 0 0] 24)) (w.heap.size + 1) 0 0 none 0 0 := CiB.ext ⟨by
    have := heap_alloc_new (w.alloc (.cells #[.int .i64 qb, .int .i64 bi, .slice ao n cp] 24)) (.cells #[.int .i64 0, .int .i64 0, .slice none 0 0] 24)
    simpa using this⟩ (ext_al _ _)
  have bO : CiB (((w.alloc (.cells #[.int .i64 qb, .int .i64 bi, .slice ao n cp] 24)).alloc (.cells #[.int .i64 0, .int .i64 0, .slice none 0 0] 24)).alloc (.cells #[.int .i64 qb, .int .i64 bi, .slice none 0 0] 24)) (w.heap.size + 2) qb bi none 0 0 := ⟨by
    have := heap_alloc_new ((w.alloc (.cells #[.int .i64 qb, .int .i64 bi, .slice ao n cp] 24)).alloc (.cells #[.int .i64 0, .int .i64 0, .slice none 0 0] 24)) (.cells #[.int .i64 qb, .int .i64 bi, .slice none 0 0] 24)
    simpa using this⟩
  have Hl := Lib.hid h.1
  have HE0 := Lib.hid E0; have HOp := Lib.hid (h.ext E0); have Hops0 := Lib.hid h; have HC := Lib.hid bC; have HR := Lib.hid bR; have HO := Lib.hid bO; have Hbl := Lib.hid hbl
  have HoldA : Hid (n = 0 ∨ ∃ b o, ao = some ⟨b, o, none⟩ ∧ b < w.heap.size) := by
    rcases h.2 with h0 | ⟨b, o, e, hb, _⟩
    · exact Or.inl h0
    · exact Or.inr ⟨b, o, e, hb⟩
  simp only at Hl ⊢
  clear h E0 bC bR bO hbl
  go_enter Tryd.func5, Tryd.ntmps5
  go_wp2_with fail
  generalize ((w.alloc (.cells #[.int .i64 qb, .int .i64 bi, .slice ao n cp] 24)).alloc (.cells #[.int .i64 0, .int .i64 0, .slice none 0 0] 24)).alloc (.cells #[.int .i64 qb, .int .i64 bi, .slice none 0 0] 24) = W0 at *
  obtain ⟨base, hbase⟩ : ∃ base, W0.heap.size = base := ⟨_, rfl⟩
  have HoutL : Hid (w.heap.size + 2 < W0.heap.size) := HO.out.lt
  have hH3 : H + 2 < base := by have := HoutL.out; omega
  rw [hH] at HoutL HC HR HO
  go_loopg [4] n (fun kk s4 wr => ∃ (i : Nat) (av : Option Addr) (cv : Nat), s4 = .int .i64 (i : Int) ∧ i ≤ n ∧ n - i = kk ∧ CiB wr H qb bi ao n cp ∧ CiB wr (H + 1) 0 0 none 0 0 ∧ CiB wr (H + 2) qb bi av i cv ∧ OpsAt wr ao n ops ∧ OpsO wr base (.slice av i cv) (ops.take i) ∧ Ext w wr ∧ base ≤ wr.heap.size)
  case atStart => exact ⟨0, none, 0, rfl, by omega, by omega, HC.out, HR.out, HO.out, HOp.out, OpsO.nil _ _, HE0.out, by omega⟩
  case round =>
    clear HC HR HO HOp HE0
    obtain ⟨i, av, cv, rfl, hin', hk, bC, bR, bO, hops, hown, hER, hbs⟩ := hrel
    have HC := Lib.hid bC; have HR := Lib.hid bR; have Hout := Lib.hid bO; have HOp := Lib.hid hops; have Hown := Lib.hid hown; have HER := Lib.hid hER
    have v0 := bO.x2; have v2 := bC.x2
    by_cases hin : i = n
    · have h2 : ¬ (i : Int) < (n : Int) := by omega
      have ho := hown
      rw [List.take_of_length_le (by rw [Hl.out]; omega)] at ho
      obtain ⟨a', c', ev, l1, l2, hat⟩ := ho.at
      rw [Hl.out] at ev l1 hat
      cases ev
      have x0 := bO.x0; have x1 := bO.x1; have r0 := bR.x0; have r1 := bR.x1; have r2 := bR.x2; have g0 := bR.f 0; have g1 := bR.f 1; have g2 := bR.f 2
      have hO3 : Only (H + 1) wr (((wr.setCell ⟨H + 1, 0, none⟩ (.int .i64 qb)).setCell ⟨H + 1, 1, none⟩ (.int .i64 bi)).setCell ⟨H + 1, 2, none⟩ (.slice av n cv)) := (((Only.refl _ _).setCell _ _).setCell _ _).setCell _ _
      obtain ⟨a9, c9, ev9, k1, k2, hat9⟩ := (ho.only bR.row (by decide) hO3 (by simp) (by omega)).at
      rw [Hl.out] at ev9 k1 hat9
      cases ev9
      have Hat := Lib.hid hat9; have Hl1 := Lib.hid k1; have Hl2 := Lib.hid k2
      clear bC bR bO hops hown hER ho hat l1 l2 k1 k2 hat9 hO3
      go_wp2_with fail
      exact bodyPost_ret (v := .agg #[.int .i64 qb, .int .i64 bi, .slice av n cv]) (by simp [results, Tryd.results5, go_sem, r0, r1, r2]) rfl ⟨⟨av, cv, rfl, Hl1.out, Hl2.out, Hat.out⟩, Below.setCell (Below.setCell (Below.setCell HER.out (p := ⟨H + 1, 0, none⟩) (show w.heap.size ≤ H + 1 by have := HhH.out; omega) _) (p := ⟨H + 1, 1, none⟩) (show w.heap.size ≤ H + 1 by have := HhH.out; omega) _) (p := ⟨H + 1, 2, none⟩) (show w.heap.size ≤ H + 1 by have := HhH.out; omega) _⟩
    · have h2 : (i : Int) < (n : Int) := by omega
      have h0 : (0 : Int) ≤ (i : Int) := by omega
      rcases HoldA.out with h | ⟨b, o, rfl, hbw⟩
      · omega
      have HbB : Hid (b < base) := by show b < base; omega
      obtain ⟨gg, hg⟩ : ∃ g, ops[i]? = some g := ⟨_, List.getElem?_eq_getElem (by rw [Hl.out]; omega)⟩
      obtain ⟨a1, n1, c1, a2, n2, c2, e0, e1, e2, e3, e4, e5, hL⟩ := hops.at i gg hg
      have hbl := Hbl.out gg (List.mem_of_getElem? hg)
      rw [hL.i1.1, hL.i2.1] at hbl
      have hst : ops.take (i + 1) = ops.take i ++ [gg] := by rw [List.take_add_one, hg]; rfl
      have Hst := Lib.hid hst
      have HCp := Lib.hid (fun wx (hx : Ext wr wx) => copyOp_any gg a1 n1 c1 a2 n2 c2 wx (hL.ext hx) hbl.1 hbl.2)
      obtain ⟨kd, kk', ctl, qq, bb, cnd⟩ := gg
      simp only at e0 e1 e2 e3 e4 e5 HCp
      clear bC bR bO hops hown hER hL hst hbl hg
      go_wp2_with fail
      have hE0d : Ext wr wr.drew := Below.drew (Ext.refl _)
      refine wp_region_K 11 (fun w' => w'.cell? ⟨H + 2, 2, none⟩ = some (.slice av i cv) ∧ w'.cell? ⟨H, 2, none⟩ = some (.slice (some ⟨b, o, none⟩) n cp) ∧ w'.cell? ⟨b, o + i * 6, none⟩ = some (.int .i64 kd) ∧ w'.cell? ⟨b, o + i * 6 + 1, none⟩ = some (.int .i64 kk') ∧ w'.cell? ⟨b, o + i * 6 + 2, none⟩ = some (.slice a1 n1 c1) ∧ w'.cell? ⟨b, o + i * 6 + 3, none⟩ = some (.int .i64 qq) ∧ w'.cell? ⟨b, o + i * 6 + 4, none⟩ = some (.int .i64 bb) ∧ w'.cell? ⟨b, o + i * 6 + 5, none⟩ = some (.slice a2 n2 c2)) (by kernel_rfl) ?_
      show anyK _ _ _ _ _ _ 12 #[false, false, false, false, false, false, false, false, false, false, false, false] _ _
      have hHeld : wr.drew.cell? ⟨H + 2, 2, none⟩ = some (.slice av i cv) ∧ wr.drew.cell? ⟨H, 2, none⟩ = some (.slice (some ⟨b, o, none⟩) n cp) ∧ wr.drew.cell? ⟨b, o + i * 6, none⟩ = some (.int .i64 kd) ∧ wr.drew.cell? ⟨b, o + i * 6 + 1, none⟩ = some (.int .i64 kk') ∧ wr.drew.cell? ⟨b, o + i * 6 + 2, none⟩ = some (.slice a1 n1 c1) ∧ wr.drew.cell? ⟨b, o + i * 6 + 3, none⟩ = some (.int .i64 qq) ∧ wr.drew.cell? ⟨b, o + i * 6 + 4, none⟩ = some (.int .i64 bb) ∧ wr.drew.cell? ⟨b, o + i * 6 + 5, none⟩ = some (.slice a2 n2 c2) := ⟨cell_ext v0 hE0d, cell_ext v2 hE0d, cell_ext e0 hE0d, cell_ext e1 hE0d, cell_ext e2 hE0d, cell_ext e3 hE0d, cell_ext e4 hE0d, cell_ext e5 hE0d⟩
      refine anyK_take (i := 0) (v := ?_) rfl (by kernel_rfl) (by kernel_rfl) (by kernel_rfl) (N := 8) (by kernel_rfl) (by kernel_rfl) (by kernel_rfl) (fun _ _ _ h => h) (Or.inl ⟨by rfl, ?_⟩) hHeld ?_
      rotate_left 1
      · intro w hSw
        go_simp
        try with_reducible rfl
      show anyK _ _ _ _ _ _ _ _ (Act.put _ (some 17) _) _
      simp only [Act.put, List.setIfInBounds_toArray, List.set_cons_zero, List.set_cons_succ]
      refine anyK_take (i := 1) (v := ?_) rfl (by kernel_rfl) (by kernel_rfl) (by kernel_rfl) (N := 8) (by kernel_rfl) (by kernel_rfl) (by kernel_rfl) (fun _ _ _ h => h) (Or.inl ⟨by rfl, ?_⟩) hHeld ?_
      rotate_left 1
      · intro w hSw
        go_simp
        try with_reducible rfl
      show anyK _ _ _ _ _ _ _ _ (Act.put _ (some 18) _) _
      simp only [Act.put, List.setIfInBounds_toArray, List.set_cons_zero, List.set_cons_succ]
      refine anyK_take (i := 2) (v := ?_) rfl (by kernel_rfl) (by kernel_rfl) (by kernel_rfl) (N := 8) (by kernel_rfl) (by kernel_rfl) (by kernel_rfl) (fun _ _ _ h => h) (Or.inl ⟨by rfl, ?_⟩) hHeld ?_
      rotate_left 1
      · intro w hSw
        go_simp
        try with_reducible rfl
      show anyK _ _ _ _ _ _ _ _ (Act.put _ (some 19) _) _
      simp only [Act.put, List.setIfInBounds_toArray, List.set_cons_zero, List.set_cons_succ]
      refine anyK_take (i := 3) (v := ?_) rfl (by kernel_rfl) (by kernel_rfl) (by kernel_rfl) (N := 8) (by kernel_rfl) (by kernel_rfl) (by kernel_rfl) (fun _ _ _ h => h) (Or.inl ⟨by rfl, ?_⟩) hHeld ?_
      rotate_left 1
      · intro w hSw
        go_simp
        try with_reducible rfl
      show anyK _ _ _ _ _ _ _ _ (Act.put _ (some 20) _) _
      simp only [Act.put, List.setIfInBounds_toArray, List.set_cons_zero, List.set_cons_succ]
      refine anyK_take (i := 4) (v := ?_) rfl (by kernel_rfl) (by kernel_rfl) (by kernel_rfl) (N := 8) (by kernel_rfl) (by kernel_rfl) (by kernel_rfl) (fun _ _ _ h => h) (Or.inl ⟨by rfl, ?_⟩) hHeld ?_
      rotate_left 1
      · intro w hSw
        go_simp
        try with_reducible rfl
      show anyK _ _ _ _ _ _ _ _ (Act.put _ (some 21) _) _
      simp only [Act.put, List.setIfInBounds_toArray, List.set_cons_zero, List.set_cons_succ]
      refine anyK_take (i := 5) (v := ?_) rfl (by kernel_rfl) (by kernel_rfl) (by kernel_rfl) (N := 8) (by kernel_rfl) (by kernel_rfl) (by kernel_rfl) (fun _ _ _ h => h) (Or.inl ⟨by rfl, ?_⟩) hHeld ?_
      rotate_left 1
      · intro w hSw
        go_simp
        try with_reducible rfl
      show anyK _ _ _ _ _ _ _ _ (Act.put _ (some 22) _) _
      simp only [Act.put, List.setIfInBounds_toArray, List.set_cons_zero, List.set_cons_succ]
      refine anyK_take (i := 6) (v := ?_) rfl (by kernel_rfl) (by kernel_rfl) (by kernel_rfl) (N := 8) (by kernel_rfl) (by kernel_rfl) (by kernel_rfl) (fun _ _ _ h => h) (Or.inl ⟨by rfl, ?_⟩) hHeld ?_
      rotate_left 1
      · intro w hSw
        go_simp
        try with_reducible rfl
      show anyK _ _ _ _ _ _ _ _ (Act.put _ (some 23) _) _
      simp only [Act.put, List.setIfInBounds_toArray, List.set_cons_zero, List.set_cons_succ]
      clear hHeld
      refine anyK_one (i := 7) (by kernel_rfl) rfl (fun Kk hKk => ?_)
      go_simp
      (go_at_call 16; refine (HCp.out _ hE0d).mono ?_; rintro e w4 ⟨⟨a3, c3, a5, c5, rfl, O4⟩, hx4⟩; have he4 : Ext wr w4 := hE0d.trans hx4)
      go_wp2_with fail
      refine hKk.out _ _ (fun _ => ⟨cell_ext v0 he4, cell_ext v2 he4, cell_ext e0 he4, cell_ext e1 he4, cell_ext e2 he4, cell_ext e3 he4, cell_ext e4 he4, cell_ext e5 he4⟩) ?_
      clear hKk Kk
      simp only [List.setIfInBounds_toArray, List.set_cons_zero, List.set_cons_succ]
      refine anyK_one (i := 8) (by kernel_rfl) rfl (fun Kk hKk => ?_)
      go_wp2_with fail
      refine hKk.out _ _ (fun _ => ⟨cell_ext v0 (he4.trans (ext_al _ _)), cell_ext v2 (he4.trans (ext_al _ _)), cell_ext e0 (he4.trans (ext_al _ _)), cell_ext e1 (he4.trans (ext_al _ _)), cell_ext e2 (he4.trans (ext_al _ _)), cell_ext e3 (he4.trans (ext_al _ _)), cell_ext e4 (he4.trans (ext_al _ _)), cell_ext e5 (he4.trans (ext_al _ _))⟩) ?_
      clear hKk Kk
      simp only [List.setIfInBounds_toArray, List.set_cons_zero, List.set_cons_succ]
      obtain ⟨xs, ho, hzx⟩ := (Hown.out.ext he4)
      have ho5 := ho.alloc (.cells #[.int .i64 kd, .int .i64 kk', .slice a3 n1 c3, .int .i64 qq, .int .i64 bb, .slice a5 n2 c5] 51)
      obtain ⟨g, cap, w7, hrun, hown', hgrow', hcase, hglt⟩ := run_append_lies (P := Tryd.prog) (w4.alloc (.cells #[.int .i64 kd, .int .i64 kk', .slice a3 n1 c3, .int .i64 qq, .int .i64 bb, .slice a5 n2 c5] 51)) 22 22 base 51 i0 (.agg #[.int .i64 0, .int .i64 0, .slice none 0 0, .int .i64 0, .int .i64 0, .slice none 0 0]) 6 80 Tryd.underlying22 hi hz0 hz1 hz2 rfl (by decide) (.slice av i cv) (ops.take i).length xs ho5 ⟨w4.heap.size, 0, none⟩ 1 1 [.int .i64 kd, .int .i64 kk', .slice a3 n1 c3, .int .i64 qq, .int .i64 bb, .slice a5 n2 c5] rfl (new_op w4 _ _ _ _ _ _ _ _ _ _ _) (one_op _ _ _ _ _ _ _ _ _ _) (by omega) (by rw [List.length_take]; unfold maxLen; omega) (by rw [List.length_take]; omega) (by have := he4.size; simp; omega) _ rfl
      have hli : (ops.take i).length = i := by rw [List.length_take, Hl.out]; omega
      rw [hli] at hrun
      refine anyK_one (i := 9) (by kernel_rfl) rfl (fun Kk hKk => ?_)
      refine stepK_append rfl _ _ 22 rfl (.slice av i cv) (.slice (some ⟨w4.heap.size, 0, none⟩) 1 1) _ rfl rfl hrun ?_
      have hkind := PtKind ho5
      have hk7 : ∀ (b' : Nat) (cur : Array Value) (fr : Nat × Nat), (w4.alloc (.cells #[.int .i64 kd, .int .i64 kk', .slice a3 n1 c3, .int .i64 qq, .int .i64 bb, .slice a5 n2 c5] 51)).heap[b']? = some (.cells cur 3 fr) → w7.heap[b']? = (w4.alloc (.cells #[.int .i64 kd, .int .i64 kk', .slice a3 n1 c3, .int .i64 qq, .int .i64 bb, .slice a5 n2 c5] 51)).heap[b']? := fun b' cur fr hb' => by
        refine hgrow'.block b' (Array.getElem?_eq_some_iff.1 hb').1 (fun e => ?_)
        obtain ⟨_, cs, fr', e2⟩ := hkind b' e.symm
        rw [e2] at hb'
        cases hb'
      have O7 := (O4.ext (ext_al _ (.cells #[.int .i64 kd, .int .i64 kk', .slice a3 n1 c3, .int .i64 qq, .int .i64 bb, .slice a5 n2 c5] 51))).keep hgrow'.size hk7
      have own7 := OpsO.snoc hown' ho.1 hzx (fun g a1 n1 c1 a2 n2 c2 h => (h.ext (ext_al _ _)).keep hgrow'.size hk7) O7
      rw [hli] at own7
      clear hli
      have bOut7 : CiB w7 (H + 2) qb bi av i cv := ⟨(hgrow'.block _ ((Hout.out.ext he4).ext (ext_al _ _)).lt (fun e => by have := (hkind _ e.symm).1; omega)).trans ((Hout.out.ext he4).ext (ext_al _ _)).row⟩
      have x2' := bOut7.x2; have fz2 := bOut7.f 2
      have hHeld : w7.cell? ⟨H + 2, 2, none⟩ = some (.slice av i cv) ∧ w7.cell? ⟨H, 2, none⟩ = some (.slice (some ⟨b, o, none⟩) n cp) ∧ w7.cell? ⟨b, o + i * 6, none⟩ = some (.int .i64 kd) ∧ w7.cell? ⟨b, o + i * 6 + 1, none⟩ = some (.int .i64 kk') ∧ w7.cell? ⟨b, o + i * 6 + 2, none⟩ = some (.slice a1 n1 c1) ∧ w7.cell? ⟨b, o + i * 6 + 3, none⟩ = some (.int .i64 qq) ∧ w7.cell? ⟨b, o + i * 6 + 4, none⟩ = some (.int .i64 bb) ∧ w7.cell? ⟨b, o + i * 6 + 5, none⟩ = some (.slice a2 n2 c2) := ⟨x2', (CiB_grown hgrow' hkind (HC.out.ext (he4.trans (ext_al _ _))) (by omega)).x2, cell_grown hgrow' hkind e0 ((he4.trans (ext_al _ _))) HbB.out, cell_grown hgrow' hkind e1 ((he4.trans (ext_al _ _))) HbB.out, cell_grown hgrow' hkind e2 ((he4.trans (ext_al _ _))) HbB.out, cell_grown hgrow' hkind e3 ((he4.trans (ext_al _ _))) HbB.out, cell_grown hgrow' hkind e4 ((he4.trans (ext_al _ _))) HbB.out, cell_grown hgrow' hkind e5 ((he4.trans (ext_al _ _))) HbB.out⟩
      refine hKk.out _ _ (fun _ => hHeld) ?_
      clear hKk Kk
      show anyK _ _ _ _ _ _ _ _ (Act.put _ (some 26) _) _
      simp only [Act.put, List.setIfInBounds_toArray, List.set_cons_zero, List.set_cons_succ]
      refine anyK_take (i := 10) (v := ?_) rfl (by kernel_rfl) (by kernel_rfl) (by kernel_rfl) (N := 8) (by kernel_rfl) (by kernel_rfl) (by kernel_rfl) (fun _ _ _ h => h) (Or.inl ⟨by rfl, ?_⟩) hHeld ?_
      rotate_left 1
      · intro w hSw
        go_simp
        try with_reducible rfl
      show anyK _ _ _ _ _ _ _ _ (Act.put _ (some 27) _) _
      simp only [Act.put, List.setIfInBounds_toArray, List.set_cons_zero, List.set_cons_succ]
      clear hHeld
      refine anyK_one (i := 11) (by kernel_rfl) rfl (fun Kk hKk => ?_)
      refine stepK_store rfl rfl _ _ rfl (H + 2) 2 (some ⟨g, 0, none⟩) (i + 1) cap (.slice av i cv) rfl rfl x2' fz2 ?_
      refine hKk.out _ _ (fun h => Bool.noConfusion (show true = false from h)) ?_
      clear hKk Kk
      simp only [List.setIfInBounds_toArray, List.set_cons_zero, List.set_cons_succ]
      refine anyK_done (by kernel_rfl) ?_ _
      have bOut8 := bOut7.set2 (some ⟨g, 0, none⟩) (i + 1) cap
      have hOo := only1 w7 (H + 2) 2 (.slice (some ⟨g, 0, none⟩) (i + 1) cap)
      have own8 := own7.only bOut7.row (by decide) hOo (by simp) (by omega)
      have bC8 : CiB (w7.setCell ⟨H + 2, 2, none⟩ (.slice (some ⟨g, 0, none⟩) (i + 1) cap)) H qb bi (some ⟨b, o, none⟩) n cp := ⟨(hOo.block _ (by omega)).trans (CiB_grown hgrow' hkind (HC.out.ext (he4.trans (ext_al _ _))) (by omega)).row⟩
      have bR8 : CiB (w7.setCell ⟨H + 2, 2, none⟩ (.slice (some ⟨g, 0, none⟩) (i + 1) cap)) (H + 1) 0 0 none 0 0 := ⟨(hOo.block _ (by omega)).trans (CiB_grown hgrow' hkind (HR.out.ext (he4.trans (ext_al _ _))) (by omega)).row⟩
      have hE8 : Ext w (w7.setCell ⟨H + 2, 2, none⟩ (.slice (some ⟨g, 0, none⟩) (i + 1) cap)) := Below.setCell (grown_ext (HER.out.trans (he4.trans (ext_al _ _))) hgrow' (fun k hk => by have := (hkind k hk).1; have := HhH.out; omega)) (p := ⟨H + 2, 2, none⟩) (show w.heap.size ≤ H + 2 by have := HhH.out; omega) _
      have hops8 := Hops0.out.ext hE8
      have HbC8 := Lib.hid bC8; have HbR8 := Lib.hid bR8; have HbO8 := Lib.hid bOut8; have Hown8 := Lib.hid own8; have HE8 := Lib.hid hE8; have Hops8 := Lib.hid hops8
      have Hs8 : Hid (base ≤ w7.heap.size) := Nat.le_trans (Nat.le_trans hbs (he4.trans (ext_al _ _)).size) hgrow'.size
      clear bC8 bR8 bOut8 own8 hE8 hops8 own7 bOut7 O7 hk7 hkind hgrow' hown' hrun ho5 ho hzx O4 hx4 he4 hE0d v0 v2 e0 e1 e2 e3 e4 e5 x2' fz2
      go_wp2_with fail
      go_roundg (n - (i + 1))
      case measure => omega
      case rel => exact ⟨i + 1, some ⟨g, 0, none⟩, cap, by go_num, by omega, rfl, HbC8.out, HbR8.out, HbO8.out, Hops8.out, by rw [Hst.out]; exact Hown8.out, HE8.out, by simpa using Hs8.out⟩

end Go.Proofs.YthgmlhddanbbpaaDoor
namespace Go.Proofs.YthgmlhddanbbpaaDoor
open Go.RowKit

theorem stepK_storeI {ops : Array Oper} {o : Oper} {a : Act} {K : Act → World → Prop} {Q : Exit → Act → World → Prop} {E : Prop} {w : World} (hgd : o.guard = none) (hd : o.dst = none) (p x : Operand)
    (ho : o.op = .store 25 p x) (b off : Nat) (a' : Option Addr) (n' c' : Nat) (u : Value) (hp : a.eval p = .pointer (some ⟨b, off, none⟩)) (hx : a.eval x = .slice a' n' c')
    (hcell : w.cell? ⟨b, off, none⟩ = some u) (hfz : w.frozen? ⟨b, off, none⟩ = false) (h : K a (w.setCell ⟨b, off, none⟩ (.slice a' n' c'))) :
    if Region.wanted o (yielded ops a.tmps) = true then Oper.wp Tryd.prog o a w K Q else E := by
  have hw : Region.wanted o (yielded ops a.tmps) = true := by simp [Region.wanted, hgd]
  rw [if_pos hw]
  obtain ⟨od, oo, ot, opp, oa, og⟩ := o
  simp only at ho hd
  subst ho hd
  have HH := Lib.hid h
  clear h
  unfold Oper.wp execOp
  simp only [hp, hx]
  go_simp
  exact HH.out

end Go.Proofs.YthgmlhddanbbpaaDoor
namespace Go.Proofs.YthgmlhddanbbpaaDoor
open Go.RowKit

theorem CiB.set0 {W : World} {g : Nat} {qb bi : Int} {ao : Option Addr} {n cp : Nat} (h : CiB W g qb bi ao n cp) (v : Int) : CiB (W.setCell ⟨g, 0, none⟩ (.int .i64 v)) g v bi ao n cp := ⟨row_put h.row rfl⟩
theorem CiB.set1 {W : World} {g : Nat} {qb bi : Int} {ao : Option Addr} {n cp : Nat} (h : CiB W g qb bi ao n cp) (v : Int) : CiB (W.setCell ⟨g, 1, none⟩ (.int .i64 v)) g qb v ao n cp := ⟨row_put h.row rfl⟩
end Go.Proofs.YthgmlhddanbbpaaDoor
namespace Go.Proofs.YthgmlhddanbbpaaDoor
open Go.RowKit

/-- Six cells are laid from p on. -/
def set6 (cs : Array Value) (p : Nat) (f : Nat → Value) : Array Value :=
  (((((cs.setIfInBounds p (f 0)).setIfInBounds (p + 1) (f 1)).setIfInBounds (p + 2) (f 2)).setIfInBounds (p + 3) (f 3)).setIfInBounds (p + 4) (f 4)).setIfInBounds (p + 5) (f 5)
theorem set6_size (cs : Array Value) (p : Nat) (f : Nat → Value) : (set6 cs p f).size = cs.size := by simp [set6]
theorem set6_in (cs : Array Value) (p : Nat) (f : Nat → Value) (k : Nat) (hk : k < 6) (hp : p + 6 ≤ cs.size) : (set6 cs p f)[p + k]? = some (f k) := by
  have : k = 0 ∨ k = 1 ∨ k = 2 ∨ k = 3 ∨ k = 4 ∨ k = 5 := by omega
  unfold set6
  rcases this with rfl | rfl | rfl | rfl | rfl | rfl
  all_goals
    simp only [Array.getElem?_setIfInBounds, Array.size_setIfInBounds]
    repeat (first | rw [if_neg (by omega)] | rw [if_pos (by omega)] | rw [if_pos trivial])
theorem set6_out (cs : Array Value) (p : Nat) (f : Nat → Value) (q : Nat) (hq : q < p ∨ p + 6 ≤ q) : (set6 cs p f)[q]? = cs[q]? := by
  unfold set6
  simp only [Array.getElem?_setIfInBounds]
  repeat rw [if_neg (by omega)]

/-- The outer i on each side changed places. -/
def half (ops : List Gop) (i : Nat) : List Gop := ops.reverse.take i ++ ((ops.drop i).take (ops.length - 2 * i) ++ ops.reverse.drop (ops.length - i))
theorem half_len {ops : List Gop} {i : Nat} (h : 2 * i ≤ ops.length) : (half ops i).length = ops.length := by
  unfold half
  simp only [List.length_append, List.length_take, List.length_drop, List.length_reverse]
  omega
theorem half_get {ops : List Gop} {i t : Nat} (h : 2 * i ≤ ops.length) (ht : t < ops.length) : (half ops i)[t]? = if t < i ∨ ops.length - i ≤ t then ops[ops.length - 1 - t]? else ops[t]? := by
  unfold half
  by_cases h1 : t < i
  · rw [if_pos (Or.inl h1), List.getElem?_append_left (by rw [List.length_take, List.length_reverse]; omega), List.getElem?_take, if_pos h1, List.getElem?_reverse (by omega)]
  · rw [List.getElem?_append_right (by rw [List.length_take, List.length_reverse]; omega)]
    have e1 : (ops.reverse.take i).length = i := by rw [List.length_take, List.length_reverse]; omega
    rw [e1]
    by_cases h2 : ops.length - i ≤ t
    · rw [if_pos (Or.inr h2), List.getElem?_append_right (by simp only [List.length_take, List.length_drop]; omega)]
      have e2 : ((ops.drop i).take (ops.length - 2 * i)).length = ops.length - 2 * i := by simp only [List.length_take, List.length_drop]; omega
      rw [e2, List.getElem?_drop, show ops.length - i + (t - i - (ops.length - 2 * i)) = t by omega, List.getElem?_reverse (by omega)]
    · rw [if_neg (by omega), List.getElem?_append_left (by simp only [List.length_take, List.length_drop]; omega), List.getElem?_take, if_pos (by omega), List.getElem?_drop, show i + (t - i) = t by omega]
theorem half_done {ops : List Gop} {i : Nat} (h : 2 * i ≤ ops.length) (h2 : ops.length ≤ 2 * i + 1) : half ops i = ops.reverse := by
  apply List.ext_getElem?
  intro t
  by_cases ht : t < ops.length
  · rw [half_get h ht, List.getElem?_reverse ht]
    split
    · rfl
    · congr 1; omega
  · rw [List.getElem?_eq_none (by rw [half_len h]; omega), List.getElem?_eq_none (by rw [List.length_reverse]; omega)]
theorem half_zero (ops : List Gop) : half ops 0 = ops := by
  unfold half
  simp

end Go.Proofs.YthgmlhddanbbpaaDoor
namespace Go.Proofs.YthgmlhddanbbpaaDoor
open Go.RowKit

/-- The six cells of an operation. -/
def opF (g : Gop) (a1 : Option Addr) (n1 c1 : Nat) (a2 : Option Addr) (n2 c2 : Nat) : Nat → Value
  | 0 => .int .i64 g.kind
  | 1 => .int .i64 g.k
  | 2 => .slice a1 n1 c1
  | 3 => .int .i64 g.q
  | 4 => .int .i64 g.bit
  | _ => .slice a2 n2 c2
def putAt (W : World) (g p : Nat) (f : Nat → Value) : World :=
  (((((W.setCell ⟨g, p, none⟩ (f 0)).setCell ⟨g, p + 1, none⟩ (f 1)).setCell ⟨g, p + 2, none⟩ (f 2)).setCell ⟨g, p + 3, none⟩ (f 3)).setCell ⟨g, p + 4, none⟩ (f 4)).setCell ⟨g, p + 5, none⟩ (f 5)
theorem putAt_row {W : World} {g p : Nat} {cs : Array Value} {t : TypeId} (f : Nat → Value) (h : W.heap[g]? = some (.cells cs t (0, 0))) : (putAt W g p f).heap[g]? = some (.cells (set6 cs p f) t (0, 0)) :=
  row_put (row_put (row_put (row_put (row_put (row_put h rfl) rfl) rfl) rfl) rfl) rfl
theorem putAt_only (W : World) (g p : Nat) (f : Nat → Value) : Only g W (putAt W g p f) := ((((((Only.refl _ _).setCell _ _).setCell _ _).setCell _ _).setCell _ _).setCell _ _).setCell _ _
theorem putAt_size (W : World) (g p : Nat) (f : Nat → Value) : (putAt W g p f).heap.size = W.heap.size := by simp [putAt]
/-- All but the row's own block is as it was. -/
structure Rvs (v : Value) (w w' : World) : Prop where
  os : w'.os = w.os
  tape : w'.tape = w.tape
  output : w'.output = w.output
  size : w'.heap.size = w.heap.size
  block : ∀ k, v.ownBlock ≠ some k → w'.heap[k]? = w.heap[k]?
theorem Rvs.refl (v : Value) (w : World) : Rvs v w w := ⟨rfl, rfl, rfl, rfl, fun _ _ => rfl⟩
theorem Rvs.of_only {g n c : Nat} {w w' : World} (h : Only g w w') : Rvs (.slice (some ⟨g, 0, none⟩) n c) w w' := ⟨h.os, h.tape, h.output, h.size, fun k hk => h.block k (fun e => hk (by rw [e]; rfl))⟩
theorem Rvs.ext {v : Value} {w0 w w' : World} (h : Rvs v w w') (k : Ext w0 w) (hv : ∀ i, v.ownBlock = some i → w0.heap.size ≤ i) : Ext w0 w' :=
  Below.trans k ⟨h.os, h.tape, h.output, Nat.le_of_eq h.size.symm, fun i hi => h.block i (fun e => by have := hv i e; omega)⟩
theorem CiB.rvs {v : Value} {w w' : World} {g : Nat} {qb bi : Int} {ao : Option Addr} {n cp : Nat} (h : CiB w g qb bi ao n cp) (k : Rvs v w w') (hv : v.ownBlock ≠ some g) : CiB w' g qb bi ao n cp := ⟨(k.block g hv).trans h.row⟩
theorem FtB.rvs {v : Value} {w w' : World} {g : Nat} {x y : Int} (h : FtB w g x y) (k : Rvs v w w') (hv : v.ownBlock ≠ some g) : FtB w' g x y := ⟨(k.block g hv).trans h.row⟩
theorem Only.drewn {g : Nat} {w w' : World} (h : Only g w w') : Only g w w'.drew := ⟨h.os, h.tape, h.output, h.size, h.block⟩
end Go.Proofs.YthgmlhddanbbpaaDoor
namespace Go.Proofs.YthgmlhddanbbpaaDoor
open Go.RowKit

/-- A circuit into one variable, a fault into another. -/
def putCF (W : World) (g gf : Nat) (q b : Int) (a : Option Addr) (n c : Nat) (u v : Int) : World :=
  ((((W.setCell ⟨g, 0, none⟩ (.int .i64 q)).setCell ⟨g, 1, none⟩ (.int .i64 b)).setCell ⟨g, 2, none⟩ (.slice a n c)).setCell ⟨gf, 0, none⟩ (.int .i64 u)).setCell ⟨gf, 1, none⟩ (.int .i64 v)
theorem putCF_C {W : World} {g gf : Nat} {q0 b0 : Int} {a0 : Option Addr} {n0 c0 : Nat} (h : CiB W g q0 b0 a0 n0 c0) (hne : g ≠ gf) (q b : Int) (a : Option Addr) (n c : Nat) (u v : Int) : CiB (putCF W g gf q b a n c u v) g q b a n c :=
  ⟨row_far (row_far (((h.set0 q).set1 b).set2 a n c).row (by omega)) (by omega)⟩
theorem putCF_F {W : World} {g gf : Nat} {u0 v0 : Int} (h : FtB W gf u0 v0) (hne : g ≠ gf) (q b : Int) (a : Option Addr) (n c : Nat) (u v : Int) : FtB (putCF W g gf q b a n c u v) gf u v :=
  ⟨row_put (row_put (row_far (row_far (row_far h.row (by omega)) (by omega)) (by omega)) rfl) rfl⟩
theorem putCF_ext {w W : World} {g gf : Nat} (h : Ext w W) (hg : w.heap.size ≤ g) (hf : w.heap.size ≤ gf) (q b : Int) (a : Option Addr) (n c : Nat) (u v : Int) : Ext w (putCF W g gf q b a n c u v) :=
  cput (o := 1) (cput (o := 0) (cput (o := 2) (cput (o := 1) (cput (o := 0) h hg _) hg _) hg _) hf _) hf _
theorem CiB.drew {W : World} {g : Nat} {qb bi : Int} {ao : Option Addr} {n cp : Nat} (h : CiB W g qb bi ao n cp) : CiB W.drew g qb bi ao n cp := ⟨h.row⟩
theorem FtB.drew {W : World} {g : Nat} {u v : Int} (h : FtB W g u v) : FtB W.drew g u v := ⟨h.row⟩

end Go.Proofs.YthgmlhddanbbpaaDoor
namespace Go.Proofs.YthgmlhddanbbpaaDoor
open Go.RowKit

def opp (k : Int) : Int := (16 - k).tmod 16
/-- An operation undone. -/
def undoO (g : Gop) : Gop := { g with k := opp g.k }
/-- Operations undone. -/
def invO (ops : List Gop) : List Gop := ops.reverse.map undoO
/-- The first i of them undone, in place. -/
def invF (ops : List Gop) (i : Nat) : List Gop := (ops.take i).map undoO ++ ops.drop i
theorem invF_len (ops : List Gop) (i : Nat) : (invF ops i).length = ops.length := by
  unfold invF
  simp only [List.length_append, List.length_map, List.length_take, List.length_drop]
  omega
theorem invF_get {ops : List Gop} {i t : Nat} (ht : t < ops.length) : (invF ops i)[t]? = if t < i then ops[t]?.map undoO else ops[t]? := by
  unfold invF
  by_cases h : t < i
  · rw [if_pos h, List.getElem?_append_left (by rw [List.length_map, List.length_take]; omega), List.getElem?_map, List.getElem?_take, if_pos h]
  · rw [if_neg h, List.getElem?_append_right (by rw [List.length_map, List.length_take]; omega), List.length_map, List.length_take, List.getElem?_drop]
    congr 1; omega
theorem invF_zero (ops : List Gop) : invF ops 0 = ops := by simp [invF]
theorem invF_all {ops : List Gop} {i : Nat} (h : ops.length ≤ i) : invF ops i = ops.map undoO := by
  unfold invF
  rw [List.take_of_length_le h, List.drop_eq_nil_of_le h, List.append_nil]
theorem pur_zero {c : Gci} (h : (pur c).1 = 0) : (chk c).1 = 0 ∧ pur c = (0, 0) := by
  have key : ∀ (l : List Gop) (i : Nat), (purF i l).1 = 0 → purF i l = (0, 0) := by
    intro l
    induction l with
    | nil => intro i _; rfl
    | cons o r ih =>
      intro i h
      rw [purF] at h ⊢
      by_cases hc : 5 ≤ o.kind ∨ 0 < o.cnd.length
      · rw [if_pos hc] at h; exact absurd h (show ¬ (15 : Int) = 0 by decide)
      · rw [if_neg hc] at h ⊢; exact ih _ h
  unfold pur at h ⊢
  by_cases hc : (chk c).1 ≠ 0
  · rw [if_pos hc] at h; exact absurd h hc
  · rw [if_neg hc] at h ⊢; exact ⟨by omega, key _ _ h⟩

theorem opposite_any (k : Int) (w : World) (h0 : 0 ≤ k) (h1 : k ≤ 16) : Calls Tryd.prog 80 #[.int .i64 k] w fun e w' => e = .returned (.int .i64 (opp k)) ∧ w' = w := by
  obtain ⟨r, hr⟩ : ∃ r, opp k = r := ⟨_, rfl⟩
  rw [hr]
  unfold opp at hr
  obtain ⟨d, hd⟩ : ∃ d, 16 - k = d := ⟨_, rfl⟩
  rw [hd] at hr
  have w1 : IntKind.i64.wrap (16 - k) = d := by rw [IntKind.wrap_i64]; omega
  have hdr : d.tmod 16 = r := hr
  have w2 : IntKind.i64.wrap (d.tmod 16) = r := by
    rw [hdr, IntKind.wrap_i64]
    have : 0 ≤ r ∧ r < 16 := by rw [← hr]; exact ⟨Int.tmod_nonneg _ (by omega), Int.tmod_lt_of_pos _ (by omega)⟩
    omega
  clear hr hd
  go_enter Tryd.func80, Tryd.ntmps80
  go_wp2_with fail
  go_ret
  exact ⟨rfl, rfl⟩

theorem stepK_storeN {ops : Array Oper} {o : Oper} {a : Act} {K : Act → World → Prop} {Q : Exit → Act → World → Prop} {E : Prop} {w : World} (hgd : o.guard = none) (hd : o.dst = none) (p x : Operand)
    (ho : o.op = .store 3 p x) (b off : Nat) (z : Int) (u : Value) (hp : a.eval p = .pointer (some ⟨b, off, none⟩)) (hx : a.eval x = .int .i64 z)
    (hcell : w.cell? ⟨b, off, none⟩ = some u) (hfz : w.frozen? ⟨b, off, none⟩ = false) (h : K a (w.setCell ⟨b, off, none⟩ (.int .i64 z))) :
    if Region.wanted o (yielded ops a.tmps) = true then Oper.wp Tryd.prog o a w K Q else E := by
  have hw : Region.wanted o (yielded ops a.tmps) = true := by simp [Region.wanted, hgd]
  rw [if_pos hw]
  obtain ⟨od, oo, ot, opp, oa, og⟩ := o
  simp only at ho hd
  subst ho hd
  have HH := Lib.hid h
  clear h
  unfold Oper.wp execOp
  simp only [hp, hx]
  go_simp
  exact HH.out

end Go.Proofs.YthgmlhddanbbpaaDoor
namespace Go.Proofs.YthgmlhddanbbpaaDoor
open Go.RowKit

/-- A region that draws its order, only reads, and calls what only makes memory, in the order of the text: over all worlds F x. -/
theorem wp_region_F {X : Type} {F : X → World} {id : Nat} {Q : Exit → Act → World → Prop} {a : Act} {w : World} {l : List Oper} (hm : Tryd.prog.follows .mixedOrders = true) (hB : Region.lexB .any l.toArray = true) (hC : ∃ x, w.drew = F x)
    (h : wpQuiet Tryd.prog l.toArray (fun w' => ∃ x, w' = F x) (fun a' => ∀ w', (∃ x, w' = F x) → Q .normal a' w') l a) : (Code.region id l.toArray true).wp Tryd.prog Q a w :=
  wp_region_quiet (C := fun w' => ∃ x, w' = F x) hm hB hC (by simpa using h)

end Go.Proofs.YthgmlhddanbbpaaDoor
namespace Go.Proofs.YthgmlhddanbbpaaDoor
open Go.RowKit

theorem opk_range {g : Gop} {n b : Int} (h : opCode g n b = 0) : 0 ≤ g.k ∧ g.k ≤ 15 := by
  unfold opCode at h
  split at h
  · omega
  · split at h
    · omega
    · next hk =>
      unfold fitsB at hk
      split at hk
      · unfold below at hk
        simp at hk
        omega
      · simp at hk
        omega

end Go.Proofs.YthgmlhddanbbpaaDoor
namespace Go.Proofs.YthgmlhddanbbpaaDoor
open Go.RowKit

/-- The cells of operations that lie somewhere. -/
theorem opsAt_cells {w : World} {b o n : Nat} {ops : List Gop} (h : OpsAt w (some ⟨b, o, none⟩) n ops) : ∃ ys : List Value, ys.length = n * 6 ∧ (∀ j u, ys[j]? = some u → w.cell? ((⟨b, o, none⟩ : Addr).add j) = some u) ∧ (∀ u ∈ ys, u.oneCell' = true) ∧
    ∀ t g, ops[t]? = some g → ∃ (a1 : Option Addr) (n1 c1 : Nat) (a2 : Option Addr) (n2 c2 : Nat), ys[t * 6]? = some (.int .i64 g.kind) ∧ ys[t * 6 + 1]? = some (.int .i64 g.k) ∧ ys[t * 6 + 2]? = some (.slice a1 n1 c1) ∧ ys[t * 6 + 3]? = some (.int .i64 g.q) ∧ ys[t * 6 + 4]? = some (.int .i64 g.bit) ∧ ys[t * 6 + 5]? = some (.slice a2 n2 c2) ∧ OpL w g a1 n1 c1 a2 n2 c2 := by
  have hl := h.1
  have hex : ∀ t, t < n → ∃ f : Nat → Value, (∀ k, k < 6 → w.cell? ⟨b, o + t * 6 + k, none⟩ = some (f k) ∧ (f k).oneCell' = true) ∧ ∃ g, ops[t]? = some g ∧ ∃ (a1 : Option Addr) (n1 c1 : Nat) (a2 : Option Addr) (n2 c2 : Nat), f 0 = .int .i64 g.kind ∧ f 1 = .int .i64 g.k ∧ f 2 = .slice a1 n1 c1 ∧ f 3 = .int .i64 g.q ∧ f 4 = .int .i64 g.bit ∧ f 5 = .slice a2 n2 c2 ∧ OpL w g a1 n1 c1 a2 n2 c2 := by
    intro t ht
    have hgt : ops[t]? = some ops[t] := List.getElem?_eq_getElem (by omega)
    obtain ⟨a1, n1, c1, a2, n2, c2, e0, e1, e2, e3, e4, e5, e6⟩ := h.at t _ hgt
    refine ⟨opF ops[t] a1 n1 c1 a2 n2 c2, fun k hk => ?_, ops[t], hgt, a1, n1, c1, a2, n2, c2, rfl, rfl, rfl, rfl, rfl, rfl, e6⟩
    have : k = 0 ∨ k = 1 ∨ k = 2 ∨ k = 3 ∨ k = 4 ∨ k = 5 := by omega
    rcases this with rfl | rfl | rfl | rfl | rfl | rfl
    · exact ⟨e0, rfl⟩
    · exact ⟨e1, rfl⟩
    · exact ⟨e2, rfl⟩
    · exact ⟨e3, rfl⟩
    · exact ⟨e4, rfl⟩
    · exact ⟨e5, rfl⟩
  obtain ⟨F, hF⟩ := Classical.axiomOfChoice (fun t : Fin n => hex t.1 t.2)
  refine ⟨(List.range (n * 6)).map (fun j => if hj : j / 6 < n then F ⟨j / 6, hj⟩ (j % 6) else .bool false), by simp, ?_, ?_, ?_⟩
  · intro j u hu
    rw [List.getElem?_map] at hu
    obtain ⟨x, hx, rfl⟩ := Option.map_eq_some_iff.1 hu
    have hj : j < n * 6 := by have := (List.getElem?_eq_some_iff.1 hx).1; simpa using this
    obtain rfl : x = j := by have := (List.getElem?_eq_some_iff.1 hx).2; simpa using this.symm
    rw [dif_pos (by omega)]
    have := ((hF ⟨x / 6, by omega⟩).1 (x % 6) (by omega)).1
    have hadd : (⟨b, o, none⟩ : Addr).add x = ⟨b, o + x, none⟩ := by unfold Addr.add; split <;> simp_all
    rw [hadd, show o + x = o + x / 6 * 6 + x % 6 by omega]
    exact this
  · intro u hu
    obtain ⟨x, hx, rfl⟩ := List.mem_map.1 hu
    have hj : x < n * 6 := by simpa using hx
    rw [dif_pos (by omega)]
    exact ((hF ⟨x / 6, by omega⟩).1 (x % 6) (by omega)).2
  · intro t g hg
    have ht : t < n := by have := (List.getElem?_eq_some_iff.1 hg).1; omega
    obtain ⟨_, g', hg', a1, n1, c1, a2, n2, c2, f0, f1, f2, f3, f4, f5, f6⟩ := hF ⟨t, ht⟩
    simp only at hg'
    rw [hg] at hg'
    injection hg' with hg'
    subst hg'
    have key : ∀ k, k < 6 → ((List.range (n * 6)).map (fun j => if hj : j / 6 < n then F ⟨j / 6, hj⟩ (j % 6) else .bool false))[t * 6 + k]? = some (F ⟨t, ht⟩ k) := by
      intro k hk
      rw [List.getElem?_map, List.getElem?_range (by omega)]
      simp only [Option.map_some]
      rw [dif_pos (by omega)]
      have e1 : (t * 6 + k) / 6 = t := by omega
      have e2 : (t * 6 + k) % 6 = k := by omega
      simp only [e1, e2]
    exact ⟨a1, n1, c1, a2, n2, c2, by rw [show t * 6 = t * 6 + 0 from rfl, key 0 (by omega), f0], by rw [key 1 (by omega), f1], by rw [key 2 (by omega), f2], by rw [key 3 (by omega), f3], by rw [key 4 (by omega), f4], by rw [key 5 (by omega), f5], f6⟩
end Go.Proofs.YthgmlhddanbbpaaDoor
namespace Go.Proofs.YthgmlhddanbbpaaDoor
open Go.RowKit

theorem opp_range {k : Int} (h : 0 ≤ k ∧ k ≤ 15) : 0 ≤ opp k ∧ opp k ≤ 15 := by
  unfold opp
  have h1 := Int.tmod_nonneg 16 (show 0 ≤ 16 - k by omega)
  have h2 := Int.tmod_lt_of_pos (16 - k) (show (0 : Int) < 16 by omega)
  omega
theorem opp_eq {k : Int} (h : 0 ≤ k ∧ k ≤ 15) : opp k = if k = 0 then 0 else 16 - k := by
  unfold opp
  rw [Int.tmod_eq_emod_of_nonneg (by omega)]
  split <;> omega
end Go.Proofs.YthgmlhddanbbpaaDoor
namespace Go.Proofs.YthgmlhddanbbpaaDoor
open Go.RowKit

/-- A list in a block of its own, not older than base. -/
def Iow (w : World) (base : Nat) (a : Option Addr) (n c : Nat) (l : List Int) : Prop := w.ownsRow base 3 1 (.slice a n c) n (iC l)
section
variable {w w' : World} {base base' : Nat} {a : Option Addr} {n c : Nat} {l : List Int}
theorem Iow.keep (h : Iow w base a n c l) (hk : ∀ (b : Nat) (cur : Array Value) (fr : Nat × Nat), w.heap[b]? = some (.cells cur 3 fr) → w'.heap[b]? = w.heap[b]?) : Iow w' base a n c l := own_keep h fun g cur _ hg => hk g cur (0, 0) hg
theorem Iow.ext (h : Iow w base a n c l) (k : Ext w w') : Iow w' base a n c l := own_keep h fun g _ _ hg => k.block g (Array.getElem?_eq_some_iff.1 hg).1
theorem Iow.down (h : Iow w base a n c l) (hb : base' ≤ base) : Iow w base' a n c l := by
  refine ⟨h.1, ?_⟩
  rcases h.2 with h | ⟨g, cap, cur, hv, hbg, rest⟩
  · exact Or.inl h
  · exact Or.inr ⟨g, cap, cur, hv, by omega, rest⟩
theorem Iow.lt (h : Iow w base a n c l) : ∀ k, (Value.slice a n c).ownBlock = some k → base ≤ k ∧ k < w.heap.size := own_lt h
theorem Iow.kind (h : Iow w base a n c l) : ∀ k, (Value.slice a n c).ownBlock = some k → ∃ cur fr, w.heap[k]? = some (.cells cur 3 fr) := fun k hk => (PtKind h k hk).2
theorem Iow.ints (h : Iow w base a n c l) : n ≤ c ∧ c ≤ maxLen ∧ IntsAt w a n l ∧ TyI w a := by
  obtain ⟨a', c', e, h1, h2, h3, h4⟩ := ints_of_own h
  injection e with e1 e2 e3
  subst e1; subst e3
  exact ⟨h1, h2, h3, h4⟩
theorem io_of_own {v : Value} (h : w.ownsRow base 3 1 v n (iC l)) : ∃ (a : Option Addr) (c : Nat), v = .slice a n c ∧ Iow w base a n c l := by
  obtain ⟨a', c', rfl, _⟩ := ints_of_own h
  exact ⟨a', c', rfl, h⟩
end

/-- An operation whose lists lie each in a block of its own. -/
structure OpN (w : World) (base : Nat) (o : Gop) (a1 : Option Addr) (n1 c1 : Nat) (a2 : Option Addr) (n2 c2 : Nat) : Prop where
  i1 : Iow w base a1 n1 c1 o.ctl
  i2 : Iow w base a2 n2 c2 o.cnd
  ne : ∀ k, (Value.slice a1 n1 c1).ownBlock = some k → (Value.slice a2 n2 c2).ownBlock ≠ some k
section
variable {w w' : World} {base base' : Nat} {o : Gop} {a1 : Option Addr} {n1 c1 : Nat} {a2 : Option Addr} {n2 c2 : Nat}
theorem OpN.keep (h : OpN w base o a1 n1 c1 a2 n2 c2) (hk : ∀ (b : Nat) (cur : Array Value) (fr : Nat × Nat), w.heap[b]? = some (.cells cur 3 fr) → w'.heap[b]? = w.heap[b]?) : OpN w' base o a1 n1 c1 a2 n2 c2 := ⟨h.i1.keep hk, h.i2.keep hk, h.ne⟩
theorem OpN.ext (h : OpN w base o a1 n1 c1 a2 n2 c2) (k : Ext w w') : OpN w' base o a1 n1 c1 a2 n2 c2 := ⟨h.i1.ext k, h.i2.ext k, h.ne⟩
theorem OpN.down (h : OpN w base o a1 n1 c1 a2 n2 c2) (hb : base' ≤ base) : OpN w base' o a1 n1 c1 a2 n2 c2 := ⟨h.i1.down hb, h.i2.down hb, h.ne⟩
theorem OpN.opO (h : OpN w base o a1 n1 c1 a2 n2 c2) : OpO w o a1 n1 c1 a2 n2 c2 := by
  obtain ⟨p1, p2, p3, p4⟩ := h.i1.ints
  obtain ⟨q1, q2, q3, q4⟩ := h.i2.ints
  exact ⟨⟨p3, p1, by unfold maxLen at p2; omega, q3, q1, by unfold maxLen at q2; omega⟩, p4, q4⟩
end

/-- Among the first m cells no two lead into one block. -/
def SepF (m : Nat) (f : Nat → Option Value) : Prop := ∀ i j k u v, i < m → j < m → f i = some u → f j = some v → u.ownBlock = some k → v.ownBlock = some k → i = j
/-- Operations, cell by cell. -/
def RowF (w : World) (base : Nat) (f : Nat → Option Value) (ops : List Gop) : Prop :=
  ∀ t g, ops[t]? = some g → ∃ (a1 : Option Addr) (n1 c1 : Nat) (a2 : Option Addr) (n2 c2 : Nat),
    f (t * 6) = some (.int .i64 g.kind) ∧ f (t * 6 + 1) = some (.int .i64 g.k) ∧ f (t * 6 + 2) = some (.slice a1 n1 c1) ∧ f (t * 6 + 3) = some (.int .i64 g.q) ∧ f (t * 6 + 4) = some (.int .i64 g.bit) ∧ f (t * 6 + 5) = some (.slice a2 n2 c2) ∧ OpN w base g a1 n1 c1 a2 n2 c2
section
variable {w w' : World} {base base' : Nat} {f f' : Nat → Option Value} {ops : List Gop}
theorem RowF.map (h : RowF w base f ops) (hk : ∀ g a1 n1 c1 a2 n2 c2, OpN w base g a1 n1 c1 a2 n2 c2 → OpN w' base' g a1 n1 c1 a2 n2 c2) : RowF w' base' f ops := fun t g hg => by
  obtain ⟨a1, n1, c1, a2, n2, c2, e0, e1, e2, e3, e4, e5, e6⟩ := h t g hg
  exact ⟨a1, n1, c1, a2, n2, c2, e0, e1, e2, e3, e4, e5, hk _ _ _ _ _ _ _ e6⟩
theorem RowF.congr (h : RowF w base f ops) (he : ∀ i, i < ops.length * 6 → f' i = f i) : RowF w base f' ops := fun t g hg => by
  obtain ⟨a1, n1, c1, a2, n2, c2, e0, e1, e2, e3, e4, e5, e6⟩ := h t g hg
  have ht := (List.getElem?_eq_some_iff.1 hg).1
  exact ⟨a1, n1, c1, a2, n2, c2, (he _ (by omega)).trans e0, (he _ (by omega)).trans e1, (he _ (by omega)).trans e2, (he _ (by omega)).trans e3, (he _ (by omega)).trans e4, (he _ (by omega)).trans e5, e6⟩
theorem SepF.congr {m : Nat} (h : SepF m f) (he : ∀ i, i < m → f' i = f i) : SepF m f' := fun i j k u v hi hj eu ev ku kv =>
  h i j k u v hi hj ((he i hi).symm.trans eu) ((he j hj).symm.trans ev) ku kv
theorem RowF.blocks (h : RowF w base f ops) {i : Nat} {u : Value} {k : Nat} (hi : i < ops.length * 6) (hu : f i = some u) (hk : u.ownBlock = some k) : base ≤ k ∧ k < w.heap.size ∧ ∃ cur fr, w.heap[k]? = some (.cells cur 3 fr) := by
  obtain ⟨t, r, hr, rfl⟩ : ∃ t r, r < 6 ∧ i = t * 6 + r := ⟨i / 6, i % 6, by omega, by omega⟩
  have ht : t < ops.length := by omega
  obtain ⟨a1, n1, c1, a2, n2, c2, e0, e1, e2, e3, e4, e5, e6⟩ := h t _ (List.getElem?_eq_getElem ht)
  have : r = 0 ∨ r = 1 ∨ r = 2 ∨ r = 3 ∨ r = 4 ∨ r = 5 := by omega
  rcases this with rfl | rfl | rfl | rfl | rfl | rfl
  · rw [Nat.add_zero, e0] at hu; cases hu; simp [Value.ownBlock] at hk
  · rw [e1] at hu; cases hu; simp [Value.ownBlock] at hk
  · rw [e2] at hu; cases hu; exact ⟨(e6.i1.lt k hk).1, (e6.i1.lt k hk).2, e6.i1.kind k hk⟩
  · rw [e3] at hu; cases hu; simp [Value.ownBlock] at hk
  · rw [e4] at hu; cases hu; simp [Value.ownBlock] at hk
  · rw [e5] at hu; cases hu; exact ⟨(e6.i2.lt k hk).1, (e6.i2.lt k hk).2, e6.i2.kind k hk⟩
end

/-- Operations in a row of the call's own, their lists each in a block of its own; xs are the row's cells. -/
structure OpsX (w : World) (base : Nat) (v : Value) (ops : List Gop) (xs : List Value) : Prop where
  own : w.ownsRow base 51 6 v ops.length xs
  sep : SepF (ops.length * 6) (fun i => xs[i]?)
  row : RowF w base (fun i => xs[i]?) ops
def OpsN (w : World) (base : Nat) (v : Value) (ops : List Gop) : Prop := ∃ xs, OpsX w base v ops xs
section
variable {w w' : World} {base base' : Nat} {v : Value} {ops : List Gop} {xs : List Value}
theorem OpsX.nil (w : World) (base : Nat) : OpsX w base (.slice none 0 0) [] [] := ⟨⟨rfl, Or.inl ⟨rfl, rfl⟩⟩, fun i j k u v hi => by simp at hi, fun t g h => by simp at h⟩
theorem OpsN.nil (w : World) (base : Nat) : OpsN w base (.slice none 0 0) [] := ⟨[], OpsX.nil w base⟩
theorem OpsX.ext (h : OpsX w base v ops xs) (k : Ext w w') : OpsX w' base v ops xs :=
  ⟨own_keep h.own (fun g _ _ hg => k.block g (Array.getElem?_eq_some_iff.1 hg).1), h.sep, h.row.map fun _ _ _ _ _ _ _ o => o.ext k⟩
theorem OpsN.ext (h : OpsN w base v ops) (k : Ext w w') : OpsN w' base v ops := h.elim fun _ hx => ⟨_, hx.ext k⟩
theorem own_keep3 {e : TypeId} {size n : Nat} (h : w.ownsRow base e size v n xs) (hk : ∀ g, v.ownBlock = some g → w'.heap[g]? = w.heap[g]?) : w'.ownsRow base e size v n xs := by
  refine ⟨h.1, ?_⟩
  rcases h.2 with h | ⟨g, cap, cur, hv, hb, hg, rest⟩
  · exact Or.inl h
  · exact Or.inr ⟨g, cap, cur, hv, hb, (hk g (by rw [hv]; rfl)).trans hg, rest⟩
theorem OpsX.keep (h : OpsX w base v ops xs) (hv : ∀ g, v.ownBlock = some g → w'.heap[g]? = w.heap[g]?) (hk : ∀ (b : Nat) (cur : Array Value) (fr : Nat × Nat), w.heap[b]? = some (.cells cur 3 fr) → w'.heap[b]? = w.heap[b]?) : OpsX w' base v ops xs :=
  ⟨own_keep3 h.own hv, h.sep, h.row.map fun _ _ _ _ _ _ _ o => o.keep hk⟩
/-- A block of another kind is written. -/
theorem OpsX.far {k : Nat} {cs : Array Value} {T : TypeId} {fr : Nat × Nat} (h : OpsX w base v ops xs) (hk : w.heap[k]? = some (.cells cs T fr)) (hT : T ≠ 3) (hT2 : T ≠ 51) (hO : Only k w w') : OpsX w' base v ops xs := by
  refine h.keep (fun g hg => hO.block g (fun e => ?_)) (only_ints hk hT hO)
  obtain ⟨_, cs', fr', e2⟩ := PtKind h.own g hg
  rw [e, hk] at e2
  cases e2
  exact hT2 rfl
theorem OpsN.far {k : Nat} {cs : Array Value} {T : TypeId} {fr : Nat × Nat} (h : OpsN w base v ops) (hk : w.heap[k]? = some (.cells cs T fr)) (hT : T ≠ 3) (hT2 : T ≠ 51) (hO : Only k w w') : OpsN w' base v ops := h.elim fun _ hx => ⟨_, hx.far hk hT hT2 hO⟩
/-- An older block is written, not of ints. -/
theorem OpsX.only {k : Nat} {cs : Array Value} {T : TypeId} {fr : Nat × Nat} (h : OpsX w base v ops xs) (hk : w.heap[k]? = some (.cells cs T fr)) (hT : T ≠ 3) (hO : Only k w w') (hb : k < base) : OpsX w' base v ops xs :=
  h.keep (fun g hg => hO.block g (by have := (PtKind h.own g hg).1; omega)) (only_ints hk hT hO)
theorem OpsN.only {k : Nat} {cs : Array Value} {T : TypeId} {fr : Nat × Nat} (h : OpsN w base v ops) (hk : w.heap[k]? = some (.cells cs T fr)) (hT : T ≠ 3) (hO : Only k w w') (hb : k < base) : OpsN w' base v ops := h.elim fun _ hx => ⟨_, hx.only hk hT hO hb⟩
theorem OpsN.down (h : OpsN w base v ops) (hb : base' ≤ base) : OpsN w base' v ops := by
  obtain ⟨xs, h⟩ := h
  refine ⟨xs, ⟨⟨h.own.1, ?_⟩, h.sep, h.row.map fun _ _ _ _ _ _ _ o => o.down hb⟩⟩
  rcases h.own.2 with h | ⟨g, cap, cur, hv, hbg, rest⟩
  · exact Or.inl h
  · exact Or.inr ⟨g, cap, cur, hv, by omega, rest⟩
theorem OpsN.o (h : OpsN w base v ops) : OpsO w base v ops := by
  obtain ⟨xs, h⟩ := h
  refine ⟨xs, h.own, fun t g hg => ?_⟩
  obtain ⟨a1, n1, c1, a2, n2, c2, e0, e1, e2, e3, e4, e5, e6⟩ := h.row t g hg
  exact ⟨a1, n1, c1, a2, n2, c2, e0, e1, e2, e3, e4, e5, e6.opO⟩
/-- What is named: where it lies, how much there is, all of it there. -/
theorem OpsN.at {a : Option Addr} {n c : Nat} (h : OpsN w base (.slice a n c) ops) : ops.length = n ∧ n ≤ c ∧ c ≤ 9223372036854775807 ∧ OpsAt w a n ops := by
  obtain ⟨a9, c9, ev9, h1, h2, h3⟩ := h.o.at
  injection ev9 with ea en ec
  subst ea; subst ec; subst en
  exact ⟨rfl, h1, by unfold maxLen at h2; omega, h3⟩
theorem OpsX.old (h : OpsX w base v ops xs) : ∀ (i : Nat) (u : Value) (k : Nat), xs[i]? = some u → u.ownBlock = some k → k < w.heap.size := fun i u k hu hk => by
  have hi : i < ops.length * 6 := by rw [← h.own.1]; exact (List.getElem?_eq_some_iff.1 hu).1
  exact (h.row.blocks hi hu hk).2.1
end
theorem six_block {k0 k1 : Int} {a1 : Option Addr} {n1 c1 : Nat} {k3 k4 : Int} {a2 : Option Addr} {n2 c2 : Nat} {j k : Nat} {u : Value} (hu : ([.int .i64 k0, .int .i64 k1, .slice a1 n1 c1, .int .i64 k3, .int .i64 k4, .slice a2 n2 c2] : List Value)[j]? = some u) (hk : u.ownBlock = some k) :
    (j = 2 ∧ (Value.slice a1 n1 c1).ownBlock = some k) ∨ (j = 5 ∧ (Value.slice a2 n2 c2).ownBlock = some k) := by
  match j, hu with
  | 0, hu => simp at hu; subst hu; simp [Value.ownBlock] at hk
  | 1, hu => simp at hu; subst hu; simp [Value.ownBlock] at hk
  | 2, hu => simp at hu; subst hu; exact Or.inl ⟨rfl, hk⟩
  | 3, hu => simp at hu; subst hu; simp [Value.ownBlock] at hk
  | 4, hu => simp at hu; subst hu; simp [Value.ownBlock] at hk
  | 5, hu => simp at hu; subst hu; exact Or.inr ⟨rfl, hk⟩
  | n + 6, hu => simp at hu
/-- One more behind them, its lists in blocks that are newer. -/
theorem OpsX.snoc {w w' : World} {base B : Nat} {v v' : Value} {ops : List Gop} {xs : List Value} {g : Gop} {a1 : Option Addr} {n1 c1 : Nat} {a2 : Option Addr} {n2 c2 : Nat} (h : OpsX w base v ops xs)
    (h1 : w'.ownsRow base 51 6 v' (ops.length + 1) (xs ++ [.int .i64 g.kind, .int .i64 g.k, .slice a1 n1 c1, .int .i64 g.q, .int .i64 g.bit, .slice a2 n2 c2]))
    (hk : ∀ (b : Nat) (cur : Array Value) (fr : Nat × Nat), w.heap[b]? = some (.cells cur 3 fr) → w'.heap[b]? = w.heap[b]?)
    (hB : ∀ (i : Nat) (u : Value) (k : Nat), xs[i]? = some u → u.ownBlock = some k → k < B) (hb : base ≤ B) (hO : OpN w' B g a1 n1 c1 a2 n2 c2) :
    OpsX w' base v' (ops ++ [g]) (xs ++ [.int .i64 g.kind, .int .i64 g.k, .slice a1 n1 c1, .int .i64 g.q, .int .i64 g.bit, .slice a2 n2 c2]) := by
  have hx : xs.length = ops.length * 6 := h.own.1
  have hl : (ops ++ [g]).length = ops.length + 1 := by simp
  have hr : ∀ j, (xs ++ [.int .i64 g.kind, .int .i64 g.k, .slice a1 n1 c1, .int .i64 g.q, .int .i64 g.bit, .slice a2 n2 c2])[ops.length * 6 + j]? = ([.int .i64 g.kind, .int .i64 g.k, .slice a1 n1 c1, .int .i64 g.q, .int .i64 g.bit, .slice a2 n2 c2] : List Value)[j]? := fun j => by
    rw [List.getElem?_append_right (by omega), hx, Nat.add_sub_cancel_left]
  have hlft : ∀ i, i < ops.length * 6 → (xs ++ [.int .i64 g.kind, .int .i64 g.k, .slice a1 n1 c1, .int .i64 g.q, .int .i64 g.bit, .slice a2 n2 c2])[i]? = xs[i]? := fun i hi => List.getElem?_append_left (by omega)
  refine ⟨by rw [hl]; exact h1, ?_, ?_⟩
  · rw [hl]
    intro i j k u v hi hj eu ev ku kv
    simp only at eu ev
    have key : ∀ p q x y, p < ops.length * 6 → ops.length * 6 ≤ q → (xs ++ [.int .i64 g.kind, .int .i64 g.k, .slice a1 n1 c1, .int .i64 g.q, .int .i64 g.bit, .slice a2 n2 c2])[p]? = some x → (xs ++ [.int .i64 g.kind, .int .i64 g.k, .slice a1 n1 c1, .int .i64 g.q, .int .i64 g.bit, .slice a2 n2 c2])[q]? = some y → x.ownBlock = some k → y.ownBlock = some k → False := by
      intro p q x y hp hq ex ey kx ky
      rw [hlft p hp] at ex
      have h1 := hB p x k ex kx
      obtain ⟨r, rfl⟩ : ∃ r, q = ops.length * 6 + r := ⟨q - ops.length * 6, by omega⟩
      rw [hr] at ey
      rcases six_block ey ky with ⟨_, e⟩ | ⟨_, e⟩
      · have := (hO.i1.lt k e).1; omega
      · have := (hO.i2.lt k e).1; omega
    by_cases h1 : i < ops.length * 6
    · by_cases h2 : j < ops.length * 6
      · exact h.sep i j k u v h1 h2 (by rw [hlft i h1] at eu; exact eu) (by rw [hlft j h2] at ev; exact ev) ku kv
      · exact (key i j u v h1 (by omega) eu ev ku kv).elim
    · by_cases h2 : j < ops.length * 6
      · exact (key j i v u h2 (by omega) ev eu kv ku).elim
      · obtain ⟨r, rfl⟩ : ∃ r, i = ops.length * 6 + r := ⟨i - ops.length * 6, by omega⟩
        obtain ⟨s, rfl⟩ : ∃ s, j = ops.length * 6 + s := ⟨j - ops.length * 6, by omega⟩
        rw [hr] at eu ev
        rcases six_block eu ku with ⟨e1, f1⟩ | ⟨e1, f1⟩ <;> rcases six_block ev kv with ⟨e2, f2⟩ | ⟨e2, f2⟩
        · omega
        · exact absurd f2 (hO.ne k f1)
        · exact absurd f1 (hO.ne k f2)
        · omega
  · intro t gg hgg
    have ht := (List.getElem?_eq_some_iff.1 hgg).1
    rw [hl] at ht
    by_cases e : t = ops.length
    · subst e
      rw [List.getElem?_append_right (Nat.le_refl _), Nat.sub_self] at hgg
      cases hgg
      exact ⟨a1, n1, c1, a2, n2, c2, hr 0, hr 1, hr 2, hr 3, hr 4, hr 5, hO.down hb⟩
    · rw [List.getElem?_append_left (by omega)] at hgg
      obtain ⟨b1, m1, d1, b2, m2, d2, e0, e1, e2, e3, e4, e5, e6⟩ := h.row t gg hgg
      exact ⟨b1, m1, d1, b2, m2, d2, (hlft _ (by omega)).trans e0, (hlft _ (by omega)).trans e1, (hlft _ (by omega)).trans e2, (hlft _ (by omega)).trans e3, (hlft _ (by omega)).trans e4, (hlft _ (by omega)).trans e5, e6.keep hk⟩

/-- The row itself: its block and the cells in it. -/
theorem opsN_open {w : World} {base : Nat} {a : Option Addr} {n c : Nat} {ops : List Gop} (h : OpsN w base (.slice a n c) ops) (hn : 0 < n) :
    ops.length = n ∧ ∃ g cur, a = some ⟨g, 0, none⟩ ∧ base ≤ g ∧ w.heap[g]? = some (.cells cur 51 (0, 0)) ∧ n ≤ c ∧ c ≤ maxLen ∧ cur.size = c * 6 ∧ SepF (n * 6) (fun i => cur[i]?) ∧ RowF w base (fun i => cur[i]?) ops := by
  obtain ⟨xs, h⟩ := h
  rcases h.own.2 with ⟨e, h0⟩ | ⟨g, cap, cur, hv, hb, hg, hnc, hcm, hsz, htk⟩
  · injection e with _ e2 _; omega
  · injection hv with e1 e2 e3
    subst e1; subst e3
    have hc : ∀ j, j < ops.length * 6 → cur[j]? = xs[j]? := by
      intro j hj
      rw [← htk, List.getElem?_take, if_pos hj, Array.getElem?_toList]
    refine ⟨e2.symm, g, cur, rfl, hb, hg, by omega, hcm, hsz, ?_, h.row.congr hc⟩
    rw [e2]
    exact h.sep.congr hc
theorem opsN_close {w : World} {base g n c : Nat} {cur : Array Value} {ops : List Gop} (hl : ops.length = n) (hb : base ≤ g) (hg : w.heap[g]? = some (.cells cur 51 (0, 0))) (hnc : n ≤ c) (hcm : c ≤ maxLen) (hsz : cur.size = c * 6) (hS : SepF (n * 6) (fun i => cur[i]?)) (h : RowF w base (fun i => cur[i]?) ops) :
    OpsN w base (.slice (some ⟨g, 0, none⟩) n c) ops := by
  have hc : ∀ j, j < ops.length * 6 → (cur.toList.take (n * 6))[j]? = cur[j]? := by
    intro j hj
    rw [List.getElem?_take, if_pos (by omega), Array.getElem?_toList]
  refine ⟨cur.toList.take (n * 6), ⟨by rw [List.length_take, Array.length_toList, hsz, hl]; omega, Or.inr ⟨g, c, cur, by rw [hl], hb, hg, by omega, hcm, hsz, by rw [hl]⟩⟩, ?_, h.congr hc⟩
  rw [hl]
  exact hS.congr fun i hi => hc i (by omega)

end Go.Proofs.YthgmlhddanbbpaaDoor
