/-
  The reference's numbers: a block of ints that is written; the digits of a product.
-/
import Derived.Test.YtfjbhiihfibbaaaDoorMZE
import Derived.Test.YtfjbhiihfibbaaaDoorMAdd

namespace Go.Proofs.YtfjbhiihfibbaaaDoor
open Go.RowKit

/-- Block b is a block of ints, L, that may be written. -/
def IRow (w : World) (b : Nat) (L : List Nat) : Prop :=
  ∃ e : { t : TypeId // t = 3 }, w.heap[b]? = some (.cells (L.map fun x => Value.int .i64 (x : Nat)).toArray e.1 (0, 0))

theorem IRow.lt {w : World} {b : Nat} {L : List Nat} (h : IRow w b L) : b < w.heap.size := by
  obtain ⟨e, h⟩ := h
  exact (Array.getElem?_eq_some_iff.1 h).1
theorem IRow.cell {w : World} {b : Nat} {L : List Nat} (h : IRow w b L) (j : Nat) (hj : j < L.length) : w.cell? ⟨b, j, none⟩ = some (.int .i64 (L.getD j 0 : Nat)) := by
  obtain ⟨e, h⟩ := h
  rw [cell_of_row w b j _ _ (0, 0) h]
  simp [hj, List.getD_eq_getElem?_getD]
theorem IRow.frozen {w : World} {b : Nat} {L : List Nat} (h : IRow w b L) (j : Nat) : w.frozen? ⟨b, j, none⟩ = false := by
  obtain ⟨e, h⟩ := h
  exact frozen_of_row w b j _ _ h
theorem IRow.set {w : World} {b : Nat} {L : List Nat} (h : IRow w b L) (j x : Nat) : IRow (w.setCell ⟨b, j, none⟩ (.int .i64 (x : Nat))) b (L.set j x) := by
  obtain ⟨e, h⟩ := h
  refine ⟨e, ?_⟩
  rw [heap_setCell_same w b j _ _ _ h]
  congr 2
  apply Array.toList_inj.1
  simp [List.map_set]
theorem IRow.ext {w w' : World} {b : Nat} {L : List Nat} (h : IRow w b L) (k : Ext w w') : IRow w' b L := by
  have hb := h.lt
  obtain ⟨e, h⟩ := h
  exact ⟨e, (k.block b hb).trans h⟩
theorem IRow.seg {w : World} {b : Nat} {L : List Nat} (h : IRow w b L) : ISeg w (some ⟨b, 0, none⟩) L :=
  Or.inr ⟨b, 0, rfl, by obtain ⟨⟨e, rfl⟩, hh⟩ := h; exact ⟨_, _, hh⟩, fun t ht => by rw [Nat.zero_add]; exact h.cell t ht⟩

theorem irow_of_made {w w' : World} {base n : Nat} (h : w'.ownsRow base 3 1 (.slice (some ⟨w.heap.size, 0, none⟩) n n) n (madeCells (Value.int .i64 0).cells (n * 1)).toList) :
    IRow w' w.heap.size (List.replicate n 0) := by
  obtain ⟨_, h | ⟨g, cap, cur, hv, _, hh, _, _, hsz, ht⟩⟩ := h
  · simp at h
  · simp only [Value.slice.injEq, Option.some.injEq, Addr.mk.injEq, and_true, true_and] at hv
    obtain ⟨hg, rfl⟩ := hv
    subst hg
    refine ⟨⟨3, rfl⟩, ?_⟩
    rw [hh]
    congr 2
    apply Array.toList_inj.1
    have e1 : cur.toList.take (n * 1) = cur.toList := List.take_of_length_le (by rw [Array.length_toList, hsz]; exact Nat.le_refl _)
    have e2 : (Value.int .i64 0).cells = #[Value.int .i64 0] := rfl
    rw [e1, e2, Nat.mul_one, toList_madeCells_one] at ht
    rw [ht]
    simp

/-- 'make([]int, n)'. -/
theorem wpList_make_irow (w : World) {ops : Array Oper} {rest : List Oper} {o : Oper} {a : Act} {Q : Exit → Act → World → Prop}
    (hg : o.guard = none) (l c : Operand) (hop : o.op = Op.makeSlice 32 l c) (kl kc : IntKind) (L C : Int) (n : Nat) (hl : a.eval l = .int kl L) (hc : a.eval c = .int kc C) (hL : L = (n : Int)) (hC : C = (n : Int)) (b2 : n ≤ 1099511627776)
    (hK : ∀ w', IRow w' w.heap.size (List.replicate n 0) → Ext w w' → w.heap.size < w'.heap.size → wpList Tryd.prog ops Q rest (a.put o.dst (.slice (some ⟨w.heap.size, 0, none⟩) n n)) w') :
    wpList Tryd.prog ops Q (o :: rest) a w := by
  obtain ⟨i0, hi, hz0, hz1, hz2⟩ := info_parts int_info
  refine wpList_make_full w hg l c 32 hop w.heap.size 3 i0 (.int .i64 0) 1 Tryd.underlying32 hi hz0 hz1 kl kc L C n hl hc hL hC (by rw [hz2]; omega) (by unfold maxLen; omega) (Nat.le_refl _) ?_
  intro w' hown hgrow
  have hr := irow_of_made hown
  exact hK w' hr ((Below.refl _ _).grown hgrow (Nat.le_refl _) (fun k h => by cases h)) hr.lt

theorem ZD.replicate (n : Nat) : ZD (List.replicate n 0) := fun x hx => by rw [List.eq_of_mem_replicate hx]; decide
theorem ZD.set {l : List Nat} (h : ZD l) (k x : Nat) (hx : x < 10000) : ZD (l.set k x) := fun y hy => by
  rcases List.mem_or_eq_of_mem_set hy with h1 | h1
  · exact h y h1
  · rw [h1]; exact hx
theorem zval_replicate (n : Nat) : zval (List.replicate n 0) = 0 := by
  induction n with
  | zero => rfl
  | succ n ih => rw [List.replicate_succ, zval, ih]

theorem zval_set (l : List Nat) : ∀ (k x : Nat), k < l.length → zval (l.set k x) + 10000 ^ k * l.getD k 0 = zval l + 10000 ^ k * x := by
  induction l with
  | nil => intro k x h; simp at h
  | cons y r ih =>
    intro k x h
    cases k with
    | zero => simp [zval]; omega
    | succ k =>
      have h1 := ih k x (by simpa using h)
      simp only [List.set_cons_succ, zval, List.getD_cons_succ]
      rw [Nat.pow_succ]
      have e1 : 10000 ^ k * 10000 * r.getD k 0 = 10000 * (10000 ^ k * r.getD k 0) := by rw [Nat.mul_comm (10000 ^ k) 10000, Nat.mul_assoc]
      have e2 : 10000 ^ k * 10000 * x = 10000 * (10000 ^ k * x) := by rw [Nat.mul_comm (10000 ^ k) 10000, Nat.mul_assoc]
      rw [e1, e2]
      omega

/-- One digit more of a product's row: t is what comes to its place. -/
theorem zmul_put {M : List Nat} {k c y p t d c' : Nat} (hk : k < M.length) (hy : M.getD k 0 = y) (ht : t = c + y + p) (hd : t % 10000 = d) (hc : t / 10000 = c') :
    zval (M.set k d) + 10000 ^ (k + 1) * c' = zval M + 10000 ^ k * (c + p) := by
  have h1 := zval_set M k d hk
  rw [hy] at h1
  have h2 : 10000 ^ k * t = 10000 ^ k * d + 10000 ^ (k + 1) * c' := by
    rw [Nat.pow_succ, Nat.mul_assoc, ← Nat.mul_add]
    congr 1
    omega
  rw [ht, Nat.mul_add, Nat.mul_add] at h2
  rw [Nat.mul_add]
  omega

/-- A row of the product, digit by digit. -/
theorem zmul_step {M lb : List Nat} {i j c y x b t d c' V : Nat} (hk : i + j < M.length) (hy : M.getD (i + j) 0 = y) (hb : zval (lb.take (j + 1)) = zval (lb.take j) + 10000 ^ j * b) (ht : t = c + y + x * b) (hd : t % 10000 = d) (hc : t / 10000 = c')
    (h : zval M + 10000 ^ (i + j) * c = V + 10000 ^ i * (x * zval (lb.take j))) :
    zval (M.set (i + j) d) + 10000 ^ (i + (j + 1)) * c' = V + 10000 ^ i * (x * zval (lb.take (j + 1))) := by
  have h1 := zmul_put hk hy ht hd hc
  rw [hb]
  have e1 : 10000 ^ i * (x * (zval (lb.take j) + 10000 ^ j * b)) = 10000 ^ i * (x * zval (lb.take j)) + 10000 ^ (i + j) * (x * b) := by
    rw [Nat.mul_add, Nat.mul_add, Nat.pow_add]
    congr 1
    rw [Nat.mul_assoc]
    congr 1
    rw [Nat.mul_left_comm]
  rw [e1, show i + (j + 1) = i + j + 1 by omega, h1, Nat.mul_add]
  omega

/-- Where something is still carried, the place is one of the row's. -/
theorem zmul_room {M la lb : List Nat} {i j c x : Nat} (hi : i < la.length) (ha : ZD la) (hb : ZD lb) (hx : la.getD i 0 = x) (hc : 0 < c)
    (h : zval M + 10000 ^ (i + j) * c = zval (la.take i) * zval lb + 10000 ^ i * (x * zval (lb.take j))) (hj : lb.length ≤ j) : j = lb.length := by
  rw [List.take_of_length_le hj] at h
  have h1 := zval_lt (ha.take (i + 1))
  have hl : (la.take (i + 1)).length = i + 1 := by rw [List.length_take]; omega
  rw [hl] at h1
  have h2 := zval_lt hb
  have e : zval (la.take (i + 1)) * zval lb = zval (la.take i) * zval lb + 10000 ^ i * (x * zval lb) := by
    rw [zval_take_in hi, hx, Nat.add_mul, Nat.mul_assoc]
  rw [← e] at h
  have h3 : zval (la.take (i + 1)) * zval lb < 10000 ^ (i + 1) * 10000 ^ lb.length := by
    have hp : 0 < 10000 ^ lb.length := Nat.pow_pos (by decide)
    have q1 : zval (la.take (i + 1)) * zval lb ≤ zval (la.take (i + 1)) * 10000 ^ lb.length := Nat.mul_le_mul_left _ (by omega)
    have q2 : zval (la.take (i + 1)) * 10000 ^ lb.length < 10000 ^ (i + 1) * 10000 ^ lb.length := Nat.mul_lt_mul_of_pos_right h1 hp
    omega
  rw [← Nat.pow_add] at h3
  have h4 : 10000 ^ (i + j) ≤ 10000 ^ (i + j) * c := Nat.le_mul_of_pos_right _ hc
  have h5 : 10000 ^ (i + j) < 10000 ^ (i + 1 + lb.length) := by omega
  have h6 := (Nat.pow_lt_pow_iff_right (a := 10000) (by decide)).1 h5
  omega

theorem zmul_row {M la lb : List Nat} {i j x : Nat} (hi : i < la.length) (hx : la.getD i 0 = x) (hj : lb.length ≤ j)
    (h : zval M + 10000 ^ (i + j) * 0 = zval (la.take i) * zval lb + 10000 ^ i * (x * zval (lb.take j))) : zval M = zval (la.take (i + 1)) * zval lb := by
  rw [List.take_of_length_le hj, Nat.mul_zero, Nat.add_zero] at h
  rw [h, zval_take_in hi, hx, Nat.add_mul, Nat.mul_assoc]

theorem zmul_carry {c y x b : Nat} (hc : c ≤ 9999) (hy : y < 10000) (hx : x < 10000) (hb : b < 10000) : (c + y + x * b) / 10000 ≤ 9999 ∧ x * b ≤ 99980001 := by
  have : x * b ≤ 9999 * 9999 := Nat.mul_le_mul (by omega) (by omega)
  omega

end Go.Proofs.YtfjbhiihfibbaaaDoor

/-
  The reference's numbers: ZMul.
-/
namespace Go.Proofs.YtfjbhiihfibbaaaDoor
open Go.RowKit

end Go.Proofs.YtfjbhiihfibbaaaDoor
