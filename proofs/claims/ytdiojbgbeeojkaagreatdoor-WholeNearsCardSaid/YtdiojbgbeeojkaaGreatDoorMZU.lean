/-
  The reference's division, in plain numbers; an append of ints; what a store of the same value leaves.
-/
import Derived.Test.YtdiojbgbeeojkaaGreatDoorMZR
import Derived.Deep.AppendLies

namespace Go.Proofs.YtdiojbgbeeojkaaGreatDoor
open Go.RowKit

theorem IsZ.len_of {w : World} {neg : Bool} {ao : Option Addr} {n c m : Nat} {z : Int} (h : IsZ w neg ao n c z) (hz : z.natAbs < 10000 ^ m) : n ≤ m := by
  obtain ⟨l, p1, p2, p3, p4, p5, p6, p7, p8, p9⟩ := h.abs
  by_cases hl : l = []
  · rw [← p1, hl]; exact Nat.zero_le _
  · have h1 := zval_ge p6 hl
    rw [← p7, p1] at h1
    have h2 : 10000 ^ (n - 1) < 10000 ^ m := by omega
    have h3 := (Nat.pow_lt_pow_iff_right (a := 10000) (by decide)).1 h2
    omega

/-- A fault that stays none. -/
theorem keepFault_block {W : World} {g : Nat} {T : TypeId} (hF : W.heap[g]? = some (.cells #[.int .i64 0, .int .i64 0] T (0, 0))) : ∀ k : Nat, ((W.setCell ⟨g, 0, none⟩ (.int .i64 0)).setCell ⟨g, 1, none⟩ (.int .i64 0)).heap[k]? = W.heap[k]? := by
  intro k
  by_cases hk : k = g
  · subst hk
    have h1 := heap_setCell_same W k 0 _ _ (.int .i64 0) hF
    have h2 := heap_setCell_same (W.setCell ⟨k, 0, none⟩ (.int .i64 0)) k 1 _ _ (.int .i64 0) h1
    rw [hF]
    exact h2
  · have hO : Only g W ((W.setCell ⟨g, 0, none⟩ (.int .i64 0)).setCell ⟨g, 1, none⟩ (.int .i64 0)) := ((Only.refl _ _).setCell _ _).setCell _ _
    exact hO.block k hk
theorem ISeg.keepFault {W : World} {g : Nat} {T : TypeId} {ao : Option Addr} {l : List Nat} (h : ISeg W ao l) (hF : W.heap[g]? = some (.cells #[.int .i64 0, .int .i64 0] T (0, 0))) : ISeg ((W.setCell ⟨g, 0, none⟩ (.int .i64 0)).setCell ⟨g, 1, none⟩ (.int .i64 0)) ao l := by
  have hb := keepFault_block hF
  rcases h with h | ⟨b, o, rfl, hlt, hc⟩
  · exact Or.inl h
  · exact Or.inr ⟨b, o, rfl, hlt.block (hb b), fun t ht => (World.cell?_of_block (a := ⟨b, o + t, none⟩) (hb b)).trans (hc t ht)⟩
theorem IsZ.keepFault {W : World} {g : Nat} {T : TypeId} {neg : Bool} {ao : Option Addr} {n c : Nat} {z : Int} (h : IsZ W neg ao n c z) (hF : W.heap[g]? = some (.cells #[.int .i64 0, .int .i64 0] T (0, 0))) : IsZ ((W.setCell ⟨g, 0, none⟩ (.int .i64 0)).setCell ⟨g, 1, none⟩ (.int .i64 0)) neg ao n c z := by
  obtain ⟨l, h1, h2, h3, h4, h5⟩ := h
  exact ⟨l, h1, h2, h3, h4.keepFault hF, h5⟩

/-- Ints that are written elsewhere. -/
theorem ISeg.far {W W' : World} {g : Nat} {ao : Option Addr} {l : List Nat} (h : ISeg W ao l) (hO : Only g W W') (hb : ∀ a, ao = some a → a.block ≠ g) : ISeg W' ao l := by
  rcases h with h | ⟨b, o, rfl, hb', hc⟩
  · exact Or.inl h
  · exact Or.inr ⟨b, o, rfl, hb'.block (hO.block b (hb _ rfl)), fun t ht => (World.cell?_of_block (a := ⟨b, o + t, none⟩) (hO.block b (hb _ rfl))).trans (hc t ht)⟩
theorem IsZ.far {W W' : World} {g : Nat} {neg : Bool} {ao : Option Addr} {n c : Nat} {z : Int} (h : IsZ W neg ao n c z) (hO : Only g W W') (hb : ∀ a, ao = some a → a.block ≠ g) : IsZ W' neg ao n c z := by
  obtain ⟨l, h1, h2, h3, h4, h5⟩ := h
  exact ⟨l, h1, h2, h3, h4.far hO hb, h5⟩

/-- Digits lie in no block of another kind: whatever is written there, they stay. -/
theorem IsZ.box {W W' : World} {g : Nat} {neg : Bool} {ao : Option Addr} {n c : Nat} {z : Int} {cs : Array Value} {T : TypeId} {fr : Nat × Nat} (h : IsZ W neg ao n c z) (hg : W.heap[g]? = some (.cells cs T fr)) (hT : T ≠ 3) (hO : Only g W W') : IsZ W' neg ao n c z := by
  have h' := h
  obtain ⟨l, _, _, _, h4, _⟩ := h'
  refine h.far hO (fun a ha hb => ?_)
  rcases h4 with ⟨h5, _⟩ | ⟨b, o, h5, ⟨cur, fr', hc⟩, _⟩
  · rw [h5] at ha; cases ha
  · rw [h5] at ha
    cases ha
    have hb' : b = g := hb
    rw [hb', hg] at hc
    cases hc
    exact hT rfl

/-- 'append([]int{x}, d...)': a row of its own. -/
theorem append_ints (w : World) (x m c : Nat) (ao : Option Addr) (lr : List Nat) (hm : lr.length = m) (hs : ISeg w ao lr) (hb : m ≤ 1000000) (W : World) (hW : W = (w.alloc (.cells #[.int .i64 (x : Int)] 3)).drew) (hsW : ISeg W ao lr) (ty : TypeId) :
    ∃ g cap w', (Builtin.append_ #[31, 31] ty #[.slice (some ⟨w.heap.size, 0, none⟩) 1 1, .slice ao m c]).run Tryz.prog W = .ok (.slice (some ⟨g, 0, none⟩) (1 + m) cap) w' ∧ ISeg w' (some ⟨g, 0, none⟩) ([x] ++ lr) ∧ 1 + m ≤ cap ∧ cap ≤ maxLen ∧ w.heap.size ≤ g ∧ Ext w w' := by
  obtain ⟨i0, hi, hz0, hz1, hz2⟩ := info_parts int_info
  have hE : Ext w W := by rw [hW]; exact Below.drew (ext_alloc _ _)
  have hrow : W.heap[w.heap.size]? = some (.cells #[.int .i64 (x : Int)] 3 (0, 0)) := by
    rw [hW]; exact heap_alloc_new w _
  have hown : W.ownsRow w.heap.size 3 1 (.slice (some ⟨w.heap.size, 0, none⟩) 1 1) 1 (inC [x]) :=
    ⟨rfl, Or.inr ⟨w.heap.size, 1, #[.int .i64 (x : Int)], rfl, Nat.le_refl _, hrow, Nat.le_refl _, by unfold maxLen; omega, rfl, rfl⟩⟩
  by_cases h0 : m = 0
  · subst h0
    have hl : lr = [] := List.eq_nil_of_length_eq_zero hm
    subst hl
    refine ⟨w.heap.size, 1, W, ?_, ?_, Nat.le_refl _, by unfold maxLen; omega, Nat.le_refl _, hE⟩
    · have hsz : (Tryz.prog.info? 3).map (·.size) = some 1 := by rw [hi]; simp [hz1]
      cases ao <;> simp [Builtin.append_, Builtin.firstCells, storeCells, go_sem]
    · have := iseg_of_own hown
      obtain ⟨a, c', h1, _, _, _, h5⟩ := this
      cases h1
      exact h5
  · obtain ⟨b, o, rfl⟩ := hs.some_of (by omega)
    obtain ⟨g, cap, w', h1, h2, h3, h4, h5⟩ := run_append_lies (P := Tryz.prog) W 31 ty w.heap.size 3 i0 (.int .i64 0) 1 8 Tryz.underlying31 hi hz0 hz1 hz2 rfl (by decide) _ 1 (inC [x]) hown ⟨b, o, none⟩ m c (inC lr) (by simp [inC, hm]) (fun j u hu => by
      have hj : j < lr.length := by
        have := (List.getElem?_eq_some_iff.1 hu).1
        simpa [inC] using this
      rw [Addr.add_lit, hsW.at j hj]
      rw [← hu, inC, List.getElem?_map, List.getElem?_eq_getElem hj, List.getD_eq_getElem?_getD, List.getElem?_eq_getElem hj]
      rfl) (fun u hu => by
      obtain ⟨y, _, rfl⟩ := List.mem_map.1 hu
      rfl) (by omega) (by unfold maxLen; omega) (by omega) hE.size W.heap.size rfl
    have h6 : inC [x] ++ inC lr = inC ([x] ++ lr) := by simp [inC]
    rw [h6] at h2
    obtain ⟨a, c', e1, e2, e3, _, e5⟩ := iseg_of_own h2
    cases e1
    refine ⟨g, cap, w', h1, e5, e2, e3, ?_, ext_grown hE h3 (fun k hk => ?_)⟩
    · have := h2.2
      rcases this with ⟨h, _⟩ | ⟨g', cap', cur, hv, hle, _⟩
      · cases h
      · cases hv; exact hle
    · cases hk; exact Nat.le_refl _

/-- At a step of a region that draws its order. -/
theorem step_append_run {ops : Array Oper} {o : Oper} {a : Act} {K : Act → World → Prop} {Q : Exit → Act → World → Prop} {E : Prop} {w w' : World} (hgd : o.guard = none) (s x : Operand)
    (ho : o.op = .call { callee := .builtin .append, args := #[s, x], argTypes := #[31, 31] }) (ht : o.type = 31) (v1 v2 r : Value) (hs : a.eval s = v1) (hx : a.eval x = v2)
    (hap : (Builtin.append_ #[31, 31] 31 #[v1, v2]).run Tryz.prog w = .ok r w') (h : K (a.put o.dst r) w') :
    if Region.wanted o (yielded ops a.tmps) = true then Oper.wp Tryz.prog o a w K Q else E := by
  have hw : Region.wanted o (yielded ops a.tmps) = true := by simp [Region.wanted, hgd]
  rw [if_pos hw]
  unfold Oper.wp execOp
  simp only [ho, ht, resolve, invoke, builtin, Sem.run_bind, Sem.run_pure, Result.andThen_ok, List.map_toArray, List.map_cons, List.map_nil, hs, hx, hap]
  exact h

/-- The search for a digit: low does, high does not. -/
theorem zdiv_digit {x R B V Qt : Nat} {lo : Nat} (h1 : lo * B ≤ x + 10000 * R) (hV : Qt * B + R = V) : (lo + 10000 * Qt) * B + (x + 10000 * R - lo * B) = x + 10000 * V := by
  rw [← hV, Nat.add_mul, Nat.mul_add, ← Nat.mul_assoc]
  omega

theorem zdiv_top {x R B : Nat} (hx : x < 10000) (hR : R < B) : x + 10000 * R < 10000 * B := by omega

end Go.Proofs.YtdiojbgbeeojkaaGreatDoor
