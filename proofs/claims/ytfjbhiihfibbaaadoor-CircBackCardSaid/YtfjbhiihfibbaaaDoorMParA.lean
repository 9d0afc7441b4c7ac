/-
  Reading numbers: the small calls on texts.
-/
import Derived.Test.YtfjbhiihfibbaaaDoorMIntE
import Derived.Lib.Strings

namespace Go.Proofs.YtfjbhiihfibbaaaDoor
open Go.RowKit

/-- A text's bytes, as numbers. -/
def bs (s : ByteArray) : List Nat := s.data.toList.map UInt8.toNat

theorem bs_length (s : ByteArray) : (bs s).length = s.size := by rw [Lib.size_eq, bs, List.length_map]
theorem bs_at (s : ByteArray) (k : Nat) (h : k < s.size) : s[k].toNat = (bs s).getD k 0 := by
  have h' : k < s.data.toList.length := by rw [← Lib.size_eq]; exact h
  unfold bs
  rw [List.getD_eq_getElem?_getD, List.getElem?_map, List.getElem?_eq_getElem h']
  rfl
theorem bs_lt (s : ByteArray) (k : Nat) : (bs s).getD k 0 < 256 := by
  unfold bs
  rw [List.getD_eq_getElem?_getD, List.getElem?_map]
  cases s.data.toList[k]? with
  | none => simp
  | some b => simp; exact b.toNat_lt
theorem bs_extract (s : ByteArray) (a b : Nat) : bs (s.extract a b) = ((bs s).drop a).take (b - a) := by
  unfold bs; rw [Lib.extract_data, List.map_take, List.map_drop]
theorem bs_empty (s : ByteArray) (h : 0 < s.size) : s.toList.isEmpty = false := by
  rw [Lib.toList_data]
  have : s.data.toList.length ≠ 0 := by rw [← Lib.size_eq]; omega
  cases hd : s.data.toList with
  | nil => rw [hd] at this; simp at this
  | cons x r => rfl
theorem bs_nil (s : ByteArray) (h : s.size = 0) : s = ⟨#[]⟩ := by
  have : s.data.toList = [] := List.eq_nil_of_length_eq_zero (by rw [← Lib.size_eq]; exact h)
  cases s with
  | mk d => simp at this; simp [this]

/-- The length of a text's sign. -/
def sgl (l : List Nat) : Nat := if l.getD 0 0 = 45 then 1 else 0
theorem sgl_le (l : List Nat) : sgl l ≤ l.length ∧ sgl l ≤ 1 := by
  unfold sgl
  split
  · rename_i h
    cases l with
    | nil => simp at h
    | cons x r => simp
  · exact ⟨Nat.zero_le _, by omega⟩

/-- A digit's byte. -/
def isD (x : Nat) : Bool := decide (48 ≤ x ∧ x ≤ 57)
/-- The digits at a text's beginning. -/
def dcount (l : List Nat) : Nat := (l.takeWhile isD).length
theorem dcount_le (l : List Nat) : dcount l ≤ l.length := by
  unfold dcount; exact (List.takeWhile_prefix _).length_le
theorem dcount_of (l : List Nat) (k : Nat) (hk : k ≤ l.length) (h : ∀ t, t < k → isD (l.getD t 0) = true) (h2 : k = l.length ∨ isD (l.getD k 0) = false) : dcount l = k := by
  induction l generalizing k with
  | nil => simp at hk; simp [dcount, hk]
  | cons x r ih =>
    cases k with
    | zero =>
      have : isD x = false := by
        rcases h2 with h2 | h2
        · simp at h2
        · simpa using h2
      simp [dcount, this]
    | succ m =>
      have hx : isD x = true := by have := h 0 (by omega); simpa using this
      have := ih m (by simpa using hk) (fun t ht => by have := h (t + 1) (by omega); simpa using this) (by
        rcases h2 with h2 | h2
        · left; simpa using h2
        · right; simpa using h2)
      unfold dcount at this ⊢
      simp [hx, this]

/-- What scanPositive counts. -/
def spos (l : List Nat) : Nat := if l.length = 0 ∨ l.getD 0 0 = 48 then 0 else dcount l
theorem spos_le (l : List Nat) : spos l ≤ l.length := by
  unfold spos; split
  · exact Nat.zero_le _
  · exact dcount_le l

end Go.Proofs.YtfjbhiihfibbaaaDoor

/-
  Reading numbers: scanNumber, tooLong, readChunk, appendChunk.
-/
namespace Go.Proofs.YtfjbhiihfibbaaaDoor
open Go.RowKit

/-- What scanNumber tells. -/
def scanN (l : List Nat) : Nat × Bool :=
  if 0 < l.length ∧ l.getD 0 0 = 48 then (1, true) else (sgl l + spos (l.drop (sgl l)), decide (0 < spos (l.drop (sgl l))))

/-- The number that digits make. -/
def dval (l : List Nat) : Nat := l.foldl (fun v x => 10 * v + (x - 48)) 0
theorem dval_snoc (l : List Nat) (x : Nat) : dval (l ++ [x]) = 10 * dval l + (x - 48) := by simp [dval]
theorem dval_lt (l : List Nat) (h : ∀ t, t < l.length → isD (l.getD t 0) = true) : dval l < 10 ^ l.length := by
  induction hn : l.length generalizing l with
  | zero => have : l = [] := List.eq_nil_of_length_eq_zero hn; subst this; simp [dval]
  | succ n ih =>
    have hl : l = l.take n ++ [l.getD n 0] := by
      have := take_succ_getD l n (by omega)
      rw [List.take_of_length_le (by omega)] at this
      exact this
    have hlt : (l.take n).length = n := by rw [List.length_take]; omega
    have h1 := ih (l.take n) (fun t ht => by
      have := h t (by omega)
      rw [List.getD_eq_getElem?_getD, List.getElem?_take, if_pos (by omega), ← List.getD_eq_getElem?_getD]; exact this) hlt
    have h2 := h n (by omega)
    simp only [isD, decide_eq_true_eq] at h2
    rw [hl, dval_snoc, Nat.pow_succ]
    omega

end Go.Proofs.YtfjbhiihfibbaaaDoor

/-
  Reading numbers: appendChunk, readNumber.
-/
namespace Go.Proofs.YtfjbhiihfibbaaaDoor
open Go.RowKit

/-- A chunk behind the digits of a number, in plain numbers. -/
theorem chunk_val {M la : List Nat} {n over chunk k : Nat} (hM : M.length = n + 1) (hv : val (seg M 0 n) + B64 ^ n * over = k + val la * chunk) : val (M.set n over) = k + val la * chunk := by
  have e1 : val (M.set n over) = val (seg (M.set n over) 0 (n + 1)) := by
    rw [show seg (M.set n over) 0 (n + 1) = M.set n over from by
      have := seg_all (M.set n over); rwa [List.length_set, hM] at this]
  rw [e1, val_seg_succ _ 0 n (by rw [List.length_set]; omega), Nat.zero_add, getD_set_eq _ _ _ (by omega), seg_set_out _ _ _ _ _ (by omega), hv]

end Go.Proofs.YtfjbhiihfibbaaaDoor

/-
  Reading numbers: readNumber.
-/
namespace Go.Proofs.YtfjbhiihfibbaaaDoor
open Go.RowKit

theorem dval_append (a b : List Nat) : dval (a ++ b) = dval a * 10 ^ b.length + dval b := by
  induction hn : b.length generalizing b with
  | zero => have : b = [] := List.eq_nil_of_length_eq_zero hn; subst this; simp [dval]
  | succ n ih =>
    have hl : b = b.take n ++ [b.getD n 0] := by
      have := take_succ_getD b n (by omega)
      rw [List.take_of_length_le (by omega)] at this
      exact this
    have hlt : (b.take n).length = n := by rw [List.length_take]; omega
    have h1 := ih (b.take n) hlt
    have e1 : dval b = 10 * dval (b.take n) + (b.getD n 0 - 48) := by
      have := dval_snoc (b.take n) (b.getD n 0)
      rw [← hl] at this; exact this
    have e2 : dval (a ++ b) = 10 * dval (a ++ b.take n) + (b.getD n 0 - 48) := by
      have := dval_snoc (a ++ b.take n) (b.getD n 0)
      rw [List.append_assoc, ← hl] at this; exact this
    rw [e2, h1, e1, Nat.pow_succ]
    generalize dval a = x
    generalize dval (b.take n) = y
    generalize 10 ^ n = z
    rw [Nat.mul_add, ← Nat.mul_assoc, Nat.mul_comm 10 x, Nat.mul_assoc x, Nat.mul_comm 10 z]
    omega

/-- All are digits. -/
def AllD (l : List Nat) : Prop := ∀ t, t < l.length → isD (l.getD t 0) = true
theorem AllD.drop {l : List Nat} (h : AllD l) (n : Nat) : AllD (l.drop n) := fun t ht => by
  rw [List.length_drop] at ht
  rw [drop_getD]; exact h (n + t) (by omega)
theorem AllD.take {l : List Nat} (h : AllD l) (n : Nat) : AllD (l.take n) := fun t ht => by
  rw [List.length_take] at ht
  rw [List.getD_eq_getElem?_getD, List.getElem?_take, if_pos (by omega), ← List.getD_eq_getElem?_getD]; exact h t (by omega)

theorem ten_le (k : Nat) : 10 ^ k ≤ B64 ^ k := Nat.pow_le_pow_left (by rw [B64_eq]; omega) k

theorem take_app (a b : List Nat) (m : Nat) : (a ++ b).take (a.length + m) = a ++ b.take m := by
  induction a with
  | nil => simp
  | cons x r ih => rw [List.cons_append, List.length_cons, show r.length + 1 + m = (r.length + m) + 1 from by omega, List.take_succ_cons, ih, List.cons_append]

/-- One round of readNumber, in plain numbers. -/
theorem read_step {used t : List Nat} {v : Nat} (hv : v = dval used) (ht : 0 < t.length) (hu : used = [] ∨ t.length % 19 = 0) :
    dval (t.take ((t.length - 1) % 19 + 1)) + v * 10000000000000000000 = dval (used ++ t.take ((t.length - 1) % 19 + 1)) := by
  rw [dval_append, hv]
  rcases hu with rfl | hu
  · simp [dval]
  · have hm : (t.length - 1) % 19 + 1 = 19 := by omega
    have hl : (t.take 19).length = 19 := by rw [List.length_take]; omega
    rw [hm, hl]
    rw [Nat.add_comm]

end Go.Proofs.YtfjbhiihfibbaaaDoor
