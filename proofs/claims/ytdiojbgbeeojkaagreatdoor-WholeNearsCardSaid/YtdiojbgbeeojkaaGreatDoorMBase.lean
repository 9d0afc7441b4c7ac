/-
  Plain facts on words (digits to the base 2^64, the lowest first) and the numbers that they make. No program is named here.
-/
import Derived.WalkKit
import Derived.WalkSpells
import Derived.WalkLawsBesides
import Derived.Lib.ItoaNum
import Derived.Lib.TrailingZeros
import Derived.Lib.AppendStr
import Derived.Lib.ItoaMem
import Derived.OwnWalk

namespace Go.Proofs.YtdiojbgbeeojkaaGreatDoor
open Go.RowKit

/-- The base of the words. -/
def B64 : Nat := 18446744073709551616
theorem B64_eq : B64 = 18446744073709551616 := rfl
theorem B64_pos : 0 < B64 := by unfold B64; omega

/-- The number that words make. -/
def val : List Nat → Nat
  | [] => 0
  | x :: r => x + B64 * val r

/-- Each is a word. -/
def Dig (l : List Nat) : Prop := ∀ x ∈ l, x < B64

/-- How many words are left without the noughts at the end. -/
def nlen : List Nat → Nat
  | [] => 0
  | x :: r => if nlen r = 0 ∧ x = 0 then 0 else nlen r + 1

theorem nlen_le (l : List Nat) : nlen l ≤ l.length := by
  induction l with
  | nil => simp [nlen]
  | cons x r ih => simp only [nlen, List.length_cons]; split <;> omega

/-- The last word is not nought. -/
def Nrm (l : List Nat) : Prop := nlen l = l.length

theorem val_append (a b : List Nat) : val (a ++ b) = val a + B64 ^ a.length * val b := by
  induction a with
  | nil => simp [val]
  | cons x r ih =>
    simp only [List.cons_append, val, ih, List.length_cons]
    rw [Nat.pow_succ', Nat.mul_add, Nat.mul_assoc]; omega

theorem val_take_nlen (l : List Nat) : val (l.take (nlen l)) = val l := by
  induction l with
  | nil => rfl
  | cons x r ih =>
    simp only [nlen]
    split
    · rename_i h
      obtain ⟨h1, h2⟩ := h
      rw [h1] at ih
      simp only [List.take_zero, val] at ih ⊢
      rw [← ih, h2]; simp
    · simp only [List.take_succ_cons, val, ih]

theorem nlen_take (l : List Nat) : nlen (l.take (nlen l)) = nlen l := by
  induction l with
  | nil => rfl
  | cons x r ih =>
    simp only [nlen]
    split
    · simp [nlen]
    · rename_i h
      simp only [List.take_succ_cons, nlen, ih]
      rw [if_neg h]

theorem Nrm_take (l : List Nat) : Nrm (l.take (nlen l)) := by
  unfold Nrm
  rw [nlen_take, List.length_take]
  have := nlen_le l
  omega

theorem Dig.take {l : List Nat} (h : Dig l) (n : Nat) : Dig (l.take n) := fun x hx => h x (List.mem_of_mem_take hx)
theorem Dig.drop {l : List Nat} (h : Dig l) (n : Nat) : Dig (l.drop n) := fun x hx => h x (List.mem_of_mem_drop hx)
theorem Dig.append {a b : List Nat} (h : Dig a) (k : Dig b) : Dig (a ++ b) := fun x hx => (List.mem_append.1 hx).elim (h x) (k x)
theorem Dig.nil : Dig [] := fun x hx => by simp at hx
theorem Dig.cons {x : Nat} {l : List Nat} (hx : x < B64) (h : Dig l) : Dig (x :: l) := fun y hy => by
  rcases List.mem_cons.1 hy with rfl | hy
  · exact hx
  · exact h y hy
theorem Dig.getD {l : List Nat} (h : Dig l) (t : Nat) : l.getD t 0 < B64 := by
  by_cases ht : t < l.length
  · rw [List.getD_eq_getElem?_getD, List.getElem?_eq_getElem ht]
    exact h _ (List.getElem_mem ht)
  · rw [List.getD_eq_getElem?_getD, List.getElem?_eq_none (by omega)]
    exact B64_pos

theorem val_lt {l : List Nat} (h : Dig l) : val l < B64 ^ l.length := by
  induction l with
  | nil => simp [val]
  | cons x r ih =>
    have hx : x < B64 := h x (List.mem_cons_self ..)
    have hr := ih (fun y hy => h y (List.mem_cons_of_mem _ hy))
    simp only [val, List.length_cons, Nat.pow_succ']
    have : B64 * (val r + 1) ≤ B64 * B64 ^ r.length := Nat.mul_le_mul_left _ hr
    rw [Nat.mul_add] at this
    omega

/-- Noughts at the end: the n-th place is the last that isn't one, seen from above. -/
theorem nlen_of_last (l : List Nat) (n : Nat) (hn : n ≤ l.length) (h0 : ∀ t, n ≤ t → l.getD t 0 = 0) (h1 : n = 0 ∨ l.getD (n - 1) 0 ≠ 0) : nlen l = n := by
  induction l generalizing n with
  | nil => simp at hn; simp [nlen, hn]
  | cons x r ih =>
    cases n with
    | zero =>
      have hr : nlen r = 0 := ih 0 (Nat.zero_le _) (fun t _ => by have := h0 (t + 1) (by omega); simpa using this) (Or.inl rfl)
      have hx : x = 0 := by have := h0 0 (by omega); simpa using this
      simp [nlen, hr, hx]
    | succ m =>
      have hr : nlen r = m := by
        refine ih m (by simpa using hn) (fun t ht => by have := h0 (t + 1) (by omega); simpa using this) ?_
        cases m with
        | zero => exact Or.inl rfl
        | succ k => right; have := h1.resolve_left (by omega); simpa using this
      simp only [nlen, hr]
      rw [if_neg]
      rintro ⟨rfl, hx⟩
      have := h1.resolve_left (by omega)
      simp [hx] at this

/-- The n words of L from the o-th on. -/
def seg (L : List Nat) (o n : Nat) : List Nat := (L.drop o).take n

theorem seg_length (L : List Nat) (o n : Nat) (h : o + n ≤ L.length) : (seg L o n).length = n := by
  unfold seg; rw [List.length_take, List.length_drop]; omega

theorem seg_zero (L : List Nat) (o : Nat) : seg L o 0 = [] := by simp [seg]

theorem seg_succ (L : List Nat) (o n : Nat) (h : o + n < L.length) : seg L o (n + 1) = seg L o n ++ [L.getD (o + n) 0] := by
  unfold seg
  rw [List.take_succ_eq_append_getElem (by rw [List.length_drop]; omega)]
  congr 2
  rw [List.getElem_drop, List.getD_eq_getElem?_getD, List.getElem?_eq_getElem h]
  rfl

theorem take_succ_getD (l : List Nat) (n : Nat) (h : n < l.length) : l.take (n + 1) = l.take n ++ [l.getD n 0] := by
  rw [List.take_succ_eq_append_getElem h, List.getD_eq_getElem?_getD, List.getElem?_eq_getElem h]
  rfl

theorem seg_congr (L M : List Nat) (o n : Nat) (hl : L.length = M.length) (h : ∀ t, o ≤ t → t < o + n → L.getD t 0 = M.getD t 0) : seg L o n = seg M o n := by
  unfold seg
  apply List.ext_getElem?
  intro i
  rw [List.getElem?_take, List.getElem?_take]
  split
  · rw [List.getElem?_drop, List.getElem?_drop]
    by_cases hi : o + i < L.length
    · have := h (o + i) (by omega) (by omega)
      rw [List.getD_eq_getElem?_getD, List.getD_eq_getElem?_getD, List.getElem?_eq_getElem hi, List.getElem?_eq_getElem (by omega)] at this
      rw [List.getElem?_eq_getElem hi, List.getElem?_eq_getElem (by omega)]
      simpa using this
    · rw [List.getElem?_eq_none (by omega), List.getElem?_eq_none (by omega)]
  · rfl

theorem getD_set_ne (L : List Nat) (i j x : Nat) (h : i ≠ j) : (L.set i x).getD j 0 = L.getD j 0 := by
  rw [List.getD_eq_getElem?_getD, List.getD_eq_getElem?_getD, List.getElem?_set_ne h]

theorem getD_set_eq (L : List Nat) (i x : Nat) (h : i < L.length) : (L.set i x).getD i 0 = x := by
  rw [List.getD_eq_getElem?_getD, List.getElem?_set_self h]; rfl

theorem Dig.set {L : List Nat} (h : Dig L) (i x : Nat) (hx : x < B64) : Dig (L.set i x) := fun y hy => by
  rcases List.mem_or_eq_of_mem_set hy with h1 | h1
  · exact h y h1
  · rw [h1]; exact hx

/-- Only the n words from the o-th on have turned. -/
def Turned (L M : List Nat) (o n : Nat) : Prop := M.length = L.length ∧ ∀ t, (t < o ∨ o + n ≤ t) → M.getD t 0 = L.getD t 0

theorem Turned.refl (L : List Nat) (o n : Nat) : Turned L L o n := ⟨rfl, fun _ _ => rfl⟩

theorem Turned.step {L M : List Nat} {o k : Nat} (h : Turned L M o k) (x : Nat) : Turned L (M.set (o + k) x) o (k + 1) :=
  ⟨by rw [List.length_set]; exact h.1, fun t ht => by rw [getD_set_ne _ _ _ _ (by omega)]; exact h.2 t (by omega)⟩

theorem val_snoc (l : List Nat) (x : Nat) : val (l ++ [x]) = val l + B64 ^ l.length * x := by rw [val_append]; simp [val]

theorem seg_step {L M : List Nat} {o k : Nat} (h : Turned L M o k) (x : Nat) (hk : o + k < L.length) : seg (M.set (o + k) x) o (k + 1) = seg M o k ++ [x] := by
  rw [seg_succ _ _ _ (by rw [List.length_set, h.1]; exact hk), getD_set_eq _ _ _ (by rw [h.1]; exact hk)]
  congr 1
  exact seg_congr _ _ _ _ (by rw [List.length_set]) (fun t _ ht => getD_set_ne _ _ _ _ (by omega))

/-- One step of a sum with a product: what is carried stands for all that is still to be added. -/
theorem muladd_step (k P S A x q y d z word over over' : Nat) (hinv : P + B64 ^ k * over = S + A * word) (hx : x + B64 * over' = y + d * word + over) (hz : z = B64 ^ k)
    (hq : q = P + z * x) : q + B64 ^ (k + 1) * over' = (S + z * y) + (A + z * d) * word := by
  subst hz hq
  have e : B64 ^ (k + 1) * over' = B64 ^ k * (B64 * over') := by rw [Nat.pow_succ, Nat.mul_assoc]
  have e2 : B64 ^ k * (x + B64 * over') = B64 ^ k * (y + d * word + over) := by rw [hx]
  rw [Nat.mul_add, Nat.mul_add, Nat.mul_add] at e2
  have e3 : (A + B64 ^ k * d) * word = A * word + B64 ^ k * (d * word) := by rw [Nat.add_mul, Nat.mul_assoc]
  rw [e, e3]
  omega

theorem addProd_step {L M la : List Nat} {o k word over over' x y d : Nat} (hT : Turned L M o k) (hn : o + la.length ≤ L.length) (hk : k < la.length)
    (hinv : val (seg M o k) + B64 ^ k * over = val (seg L o k) + val (la.take k) * word) (hy : M.getD (o + k) 0 = y) (hd : la.getD k 0 = d)
    (hx : x + B64 * over' = y + d * word + over) :
    val (seg (M.set (o + k) x) o (k + 1)) + B64 ^ (k + 1) * over' = val (seg L o (k + 1)) + val (la.take (k + 1)) * word := by
  rw [seg_step hT x (by omega), val_snoc, seg_succ L o k (by omega), val_snoc, take_succ_getD la k hk, val_snoc, seg_length M o k (by rw [hT.1]; omega), seg_length L o k (by omega)]
  rw [List.length_take, Nat.min_eq_left (by omega), ← hT.2 (o + k) (by omega), hy, hd]
  exact muladd_step k _ _ _ x _ y d _ word over over' hinv hx rfl rfl

theorem pow_split (k c : Nat) : B64 ^ (k + 1) * c = B64 ^ k * (B64 * c) := by rw [Nat.pow_succ, Nat.mul_assoc]

theorem carry_step {L M : List Nat} {o k c c' x z X : Nat} (hT : Turned L M o k) (hk : o + k < L.length) (hinv : val (seg M o k) + B64 ^ k * c = X) (hx : x + B64 * c' = z + c) :
    val (seg (M.set (o + k) x) o (k + 1)) + B64 ^ (k + 1) * c' = X + B64 ^ k * z := by
  rw [seg_step hT x hk, val_snoc, seg_length M o k (by rw [hT.1]; omega), pow_split]
  have e : B64 ^ k * (x + B64 * c') = B64 ^ k * (z + c) := by rw [hx]
  rw [Nat.mul_add, Nat.mul_add] at e
  omega

theorem borrow_step {L M : List Nat} {o k c c' x y z X Y : Nat} (hT : Turned L M o k) (hk : o + k < L.length) (hinv : val (seg M o k) + X = Y + B64 ^ k * c) (hx : x + (z + c) = y + B64 * c') :
    val (seg (M.set (o + k) x) o (k + 1)) + (X + B64 ^ k * z) = (Y + B64 ^ k * y) + B64 ^ (k + 1) * c' := by
  rw [seg_step hT x hk, val_snoc, seg_length M o k (by rw [hT.1]; omega), pow_split]
  have e : B64 ^ k * (x + (z + c)) = B64 ^ k * (y + B64 * c') := by rw [hx]
  rw [Nat.mul_add, Nat.mul_add, Nat.mul_add] at e
  omega

theorem val_seg_succ (L : List Nat) (o k : Nat) (h : o + k < L.length) : val (seg L o (k + 1)) = val (seg L o k) + B64 ^ k * L.getD (o + k) 0 := by
  rw [seg_succ L o k h, val_snoc, seg_length L o k (by omega)]

theorem val_take_succ (l : List Nat) (k : Nat) (h : k < l.length) : val (l.take (k + 1)) = val (l.take k) + B64 ^ k * l.getD k 0 := by
  rw [take_succ_getD l k h, val_snoc, List.length_take, Nat.min_eq_left (by omega)]

theorem seg_split (L : List Nat) (o j n : Nat) (hj : j ≤ n) : seg L o n = seg L o j ++ seg L (o + j) (n - j) := by
  unfold seg
  rw [← List.drop_drop, ← List.drop_take]
  have e : (L.drop o).take j = ((L.drop o).take n).take j := by rw [List.take_take, Nat.min_eq_left hj]
  rw [e, List.take_append_drop]

theorem val_seg_split (L : List Nat) (o j n : Nat) (hj : j ≤ n) (hn : o + n ≤ L.length) : val (seg L o n) = val (seg L o j) + B64 ^ j * val (seg L (o + j) (n - j)) := by
  rw [seg_split L o j n hj, val_append, seg_length L o j (by omega)]

theorem Turned.mono {L M : List Nat} {o k n : Nat} (h : Turned L M o k) (hk : k ≤ n) : Turned L M o n := ⟨h.1, fun t ht => h.2 t (by omega)⟩

/-- What has not turned behind the k-th word counts as before. -/
theorem Turned.tail {L M : List Nat} {o k n : Nat} (h : Turned L M o k) (_hk : k ≤ n) : seg M (o + k) (n - k) = seg L (o + k) (n - k) :=
  seg_congr _ _ _ _ h.1 (fun t ht _ => h.2 t (by omega))

theorem val_take_all (l : List Nat) : val (l.take l.length) = val l := by rw [List.take_length]

theorem Nrm.tail {x : Nat} {r : List Nat} (h : Nrm (x :: r)) : Nrm r ∧ ¬ (r = [] ∧ x = 0) := by
  unfold Nrm at h ⊢
  simp only [nlen, List.length_cons] at h
  split at h
  · omega
  · rename_i h2
    refine ⟨by omega, ?_⟩
    rintro ⟨rfl, rfl⟩
    exact h2 ⟨rfl, rfl⟩

theorem Nrm.ge {l : List Nat} (h : Nrm l) (h0 : l ≠ []) : B64 ^ (l.length - 1) ≤ val l := by
  induction l with
  | nil => exact absurd rfl h0
  | cons x r ih =>
    obtain ⟨hr, hx⟩ := h.tail
    by_cases hr0 : r = []
    · subst hr0
      have : x ≠ 0 := fun e => hx ⟨rfl, e⟩
      simp [val]; omega
    · have h1 := ih hr hr0
      have h2 : 0 < r.length := List.length_pos_iff.2 hr0
      simp only [val, List.length_cons, Nat.add_sub_cancel]
      have e : B64 ^ r.length = B64 * B64 ^ (r.length - 1) := by rw [← Nat.pow_succ']; congr 1; omega
      rw [e]
      have := Nat.mul_le_mul_left B64 h1
      omega

theorem Nrm.len_lt {a b : List Nat} (hb : Nrm b) (da : Dig a) (h : a.length < b.length) : val a < val b := by
  have h1 := val_lt da
  have h2 := hb.ge (by intro e; subst e; simp at h)
  have h3 : B64 ^ a.length ≤ B64 ^ (b.length - 1) := Nat.pow_le_pow_right B64_pos (by omega)
  omega

/-- Of normal words the longer number is not the lesser. -/
theorem Nrm.len_le {a b : List Nat} (ha : Nrm a) (db : Dig b) (h : val a ≤ val b) : a.length ≤ b.length := by
  by_cases hl : b.length < a.length
  · have := ha.len_lt db hl; omega
  · omega

theorem Nrm.nil : Nrm [] := rfl
theorem Nrm.zero {l : List Nat} (h : Nrm l) (h0 : val l = 0) : l = [] := by
  by_cases e : l = []
  · exact e
  · have := h.ge e
    have : 0 < B64 ^ (l.length - 1) := Nat.pow_pos B64_pos
    omega

theorem val_drop_take (l : List Nat) (n : Nat) (h : n ≤ l.length) : val l = val (l.take n) + B64 ^ n * val (l.drop n) := by
  have e := val_append (l.take n) (l.drop n)
  rw [List.take_append_drop, List.length_take, Nat.min_eq_left h] at e
  exact e

theorem getD_ext (a b : List Nat) (hl : a.length = b.length) (n : Nat) (h : ∀ t, n ≤ t → a.getD t 0 = b.getD t 0) : a.drop n = b.drop n := by
  apply List.ext_getElem?
  intro i
  rw [List.getElem?_drop, List.getElem?_drop]
  have := h (n + i) (by omega)
  rw [List.getD_eq_getElem?_getD, List.getD_eq_getElem?_getD] at this
  by_cases hi : n + i < a.length
  · rw [List.getElem?_eq_getElem hi, List.getElem?_eq_getElem (by omega)] at this ⊢
    simpa using this
  · rw [List.getElem?_eq_none (by omega), List.getElem?_eq_none (by omega)]

/-- The highest word at which two numbers part decides. -/
theorem val_lt_at {a b : List Nat} (hl : a.length = b.length) (da : Dig a) (i : Nat) (hi : i < a.length) (h : ∀ t, i + 1 ≤ t → a.getD t 0 = b.getD t 0) (hlt : a.getD i 0 < b.getD i 0) : val a < val b := by
  rw [val_drop_take a (i + 1) (by omega), val_drop_take b (i + 1) (by omega), getD_ext a b hl (i + 1) h, val_take_succ a i hi, val_take_succ b i (by omega)]
  have h1 := val_lt (da.take i)
  rw [List.length_take, Nat.min_eq_left (by omega)] at h1
  have h2 : B64 ^ i * (a.getD i 0 + 1) ≤ B64 ^ i * b.getD i 0 := Nat.mul_le_mul_left _ hlt
  rw [Nat.mul_add] at h2
  omega

end Go.Proofs.YtdiojbgbeeojkaaGreatDoor

/-
  What memory holds, said of words: a slice that is read (Seg), a block of words that is written (Row), and what a call leaves as it was (Ext, Only).
-/
namespace Go.Proofs.YtdiojbgbeeojkaaGreatDoor
open Go.RowKit

/-- The words l lie at ao. -/
def Seg (w : World) (ao : Option Addr) (l : List Nat) : Prop :=
  (ao = none ∧ l = []) ∨ ∃ b o, ao = some ⟨b, o, none⟩ ∧ b < w.heap.size ∧ ∀ t, t < l.length → w.cell? ⟨b, o + t, none⟩ = some (.int .u64 (l.getD t 0 : Nat))

/-- Nothing that was there has turned. -/
abbrev Ext (w w' : World) : Prop := Below w.heap.size w w'

theorem Ext.refl (w : World) : Ext w w := Below.refl _ _
theorem Ext.trans {a b c : World} (h : Ext a b) (k : Ext b c) : Ext a c := Below.trans h (Below.mono k h.size)

theorem Seg.ext {w w' : World} {ao : Option Addr} {l : List Nat} (h : Seg w ao l) (k : Ext w w') : Seg w' ao l := by
  rcases h with h | ⟨b, o, rfl, hb, hc⟩
  · exact Or.inl h
  · exact Or.inr ⟨b, o, rfl, Nat.lt_of_lt_of_le hb k.size, fun t ht => (k.cell (p := ⟨b, o + t, none⟩) hb).trans (hc t ht)⟩

theorem Seg.take {w : World} {ao : Option Addr} {l : List Nat} (h : Seg w ao l) (n : Nat) : Seg w ao (l.take n) := by
  rcases h with ⟨rfl, rfl⟩ | ⟨b, o, rfl, hb, hc⟩
  · exact Or.inl ⟨rfl, by simp⟩
  · refine Or.inr ⟨b, o, rfl, hb, fun t ht => ?_⟩
    rw [List.length_take] at ht
    rw [hc t (by omega)]
    simp only [List.getD_eq_getElem?_getD, List.getElem?_take]
    rw [if_pos (by omega)]

/-- Block b is a block of words, L, that may be written. -/
def Row (w : World) (b : Nat) (L : List Nat) : Prop :=
  ∃ e, w.heap[b]? = some (.cells (L.map fun x => Value.int .u64 (x : Nat)).toArray e (0, 0))

/-- Only block b has turned. -/
structure Only (b : Nat) (w w' : World) : Prop where
  os : w'.os = w.os
  tape : w'.tape = w.tape
  output : w'.output = w.output
  size : w'.heap.size = w.heap.size
  block : ∀ k, k ≠ b → w'.heap[k]? = w.heap[k]?

theorem Only.refl (b : Nat) (w : World) : Only b w w := ⟨rfl, rfl, rfl, rfl, fun _ _ => rfl⟩
theorem Only.trans {b : Nat} {a c d : World} (h : Only b a c) (k : Only b c d) : Only b a d :=
  ⟨k.os.trans h.os, k.tape.trans h.tape, k.output.trans h.output, k.size.trans h.size, fun i hi => (k.block i hi).trans (h.block i hi)⟩
theorem Only.drew {b : Nat} {a c : World} (h : Only b a c) : Only b a c.drew := ⟨h.os, h.tape, h.output, h.size, h.block⟩
theorem Only.below {b N : Nat} {a c : World} (h : Only b a c) (hb : N ≤ b) : Below N a c :=
  ⟨h.os, h.tape, h.output, by rw [h.size]; exact Nat.le_refl _, fun k hk => h.block k (by omega)⟩
theorem Only.setCell {b : Nat} {a w : World} (h : Only b a w) (o : Nat) (u : Value) : Only b a (w.setCell ⟨b, o, none⟩ u) :=
  h.trans ⟨rfl, rfl, rfl, by simp [World.setCell], fun k hk => Below.heap_setCell _ _ _ _ hk⟩

theorem Seg.only {w w' : World} {ao : Option Addr} {l : List Nat} {b : Nat} (h : Seg w ao l) (k : Only b w w') (hb : ∀ a, ao = some a → a.block ≠ b) : Seg w' ao l := by
  rcases h with h | ⟨g, o, rfl, hg, hc⟩
  · exact Or.inl h
  · exact Or.inr ⟨g, o, rfl, by rw [k.size]; exact hg, fun t ht => (World.cell?_of_block (a := ⟨g, o + t, none⟩) (k.block g (hb _ rfl))).trans (hc t ht)⟩

theorem Row.lt {w : World} {b : Nat} {L : List Nat} (h : Row w b L) : b < w.heap.size := by
  obtain ⟨e, h⟩ := h
  exact (Array.getElem?_eq_some_iff.1 h).1

theorem Row.cell {w : World} {b : Nat} {L : List Nat} (h : Row w b L) (j : Nat) (hj : j < L.length) : w.cell? ⟨b, j, none⟩ = some (.int .u64 (L.getD j 0 : Nat)) := by
  obtain ⟨e, h⟩ := h
  rw [cell_of_row w b j _ e (0, 0) h]
  simp [hj, List.getD_eq_getElem?_getD]

theorem Row.frozen {w : World} {b : Nat} {L : List Nat} (h : Row w b L) (j : Nat) : w.frozen? ⟨b, j, none⟩ = false := by
  obtain ⟨e, h⟩ := h
  exact frozen_of_row w b j _ e h

theorem Row.set {w : World} {b : Nat} {L : List Nat} (h : Row w b L) (j x : Nat) : Row (w.setCell ⟨b, j, none⟩ (.int .u64 (x : Nat))) b (L.set j x) := by
  obtain ⟨e, h⟩ := h
  refine ⟨e, ?_⟩
  rw [heap_setCell_same w b j _ e _ h]
  congr 2
  apply Array.toList_inj.1
  simp [List.map_set]

theorem Row.ext {w w' : World} {b : Nat} {L : List Nat} (h : Row w b L) (k : Ext w w') : Row w' b L := by
  have hb := h.lt
  obtain ⟨e, h⟩ := h
  exact ⟨e, (k.block b hb).trans h⟩

theorem Row.only {w w' : World} {b g : Nat} {L : List Nat} (h : Row w b L) (k : Only g w w') (hg : b ≠ g) : Row w' b L := by
  obtain ⟨e, h⟩ := h
  exact ⟨e, (k.block b hg).trans h⟩

/-- What lies in a row can be read as a slice. -/
theorem Row.seg {w : World} {b : Nat} {L : List Nat} (h : Row w b L) (o n : Nat) (hn : o + n ≤ L.length) : Seg w (some ⟨b, o, none⟩) ((L.drop o).take n) := by
  refine Or.inr ⟨b, o, rfl, h.lt, fun t ht => ?_⟩
  rw [List.length_take, List.length_drop] at ht
  rw [h.cell (o + t) (by omega)]
  simp only [List.getD_eq_getElem?_getD, List.getElem?_take, List.getElem?_drop]
  rw [if_pos (by omega)]

end Go.Proofs.YtdiojbgbeeojkaaGreatDoor

/-
  Texts of numbers, in plain lists: padded digits.
-/
namespace Go.Proofs.YtdiojbgbeeojkaaGreatDoor

/-- n digits of v, noughts ahead. -/
def padD (n v : Nat) : List UInt8 := (List.range n).map fun t => Lib.dg v (n - 1 - t)

theorem padD_length (n v : Nat) : (padD n v).length = n := by simp [padD]

theorem dg_up (v n j : Nat) : Lib.dg v (n + j) = Lib.dg (v / 10 ^ n) j := by
  unfold Lib.dg
  rw [Nat.pow_add, Nat.div_div_eq_div_mul]

theorem dg_low (v n j : Nat) (h : j < n) : Lib.dg (v % 10 ^ n) j = Lib.dg v j := by
  unfold Lib.dg
  obtain ⟨k, rfl⟩ : ∃ k, n = j + (k + 1) := ⟨n - j - 1, by omega⟩
  have e : v % 10 ^ (j + (k + 1)) / 10 ^ j % 10 = v / 10 ^ j % 10 := by
    rw [Nat.pow_add, Nat.mod_mul_right_div_self, Nat.pow_succ, Nat.mul_comm (10 ^ k) 10, Nat.mod_mul_right_mod]
  rw [e]

theorem padD_append (m n v : Nat) : padD (m + n) v = padD m (v / 10 ^ n) ++ padD n (v % 10 ^ n) := by
  unfold padD
  rw [List.range_add, List.map_append, List.map_map]
  congr 1
  · refine List.map_congr_left fun t ht => ?_
    have ht' : t < m := List.mem_range.1 ht
    rw [show m + n - 1 - t = n + (m - 1 - t) by omega, dg_up]
  · refine List.map_congr_left fun t ht => ?_
    have ht' : t < n := List.mem_range.1 ht
    show Lib.dg v (m + n - 1 - (m + t)) = _
    rw [show m + n - 1 - (m + t) = n - 1 - t by omega, dg_low _ _ _ (by omega)]

theorem decDigits_pad (u : Nat) : Lib.decDigits u = padD (Lib.nDigits u) u := Lib.decDigits_eq u

theorem nDigits_div (n v : Nat) (h : 0 < v / 10 ^ n) : Lib.nDigits v = Lib.nDigits (v / 10 ^ n) + n := by
  induction n generalizing v with
  | zero => simp
  | succ n ih =>
    rw [Nat.pow_succ, Nat.mul_comm, ← Nat.div_div_eq_div_mul] at h ⊢
    have h10 : ¬ v < 10 := by
      intro hv
      rw [Nat.div_eq_of_lt hv, Nat.zero_div] at h
      exact Nat.lt_irrefl _ h
    rw [Lib.nDigits_big h10, ih (v / 10) h]
    omega

theorem decDigits_append (n v : Nat) (h : 0 < v / 10 ^ n) : Lib.decDigits v = Lib.decDigits (v / 10 ^ n) ++ padD n (v % 10 ^ n) := by
  rw [decDigits_pad v, nDigits_div n v h, padD_append, ← decDigits_pad]

theorem padD_zero (n : Nat) : padD n 0 = List.replicate n 48 := by
  unfold padD
  apply List.ext_getElem
  · simp
  · intro i h1 h2
    simp [Lib.dg]

theorem padD_fill (n v : Nat) (h : Lib.nDigits v ≤ n) : padD n v = List.replicate (n - Lib.nDigits v) 48 ++ Lib.decDigits v := by
  obtain ⟨m, rfl⟩ : ∃ m, n = m + Lib.nDigits v := ⟨n - Lib.nDigits v, by omega⟩
  have hlt := Lib.lt_pow_nDigits v
  rw [padD_append, Nat.div_eq_of_lt hlt, Nat.mod_eq_of_lt hlt, padD_zero, Nat.add_sub_cancel, ← decDigits_pad]

theorem nDigits_le (n v : Nat) (hn : 1 ≤ n) (h : v < 10 ^ n) : Lib.nDigits v ≤ n := by
  induction n generalizing v with
  | zero => omega
  | succ n ih =>
    by_cases h10 : v < 10
    · rw [Lib.nDigits_small h10]; exact hn
    · rw [Lib.nDigits_big h10]
      rw [Nat.pow_succ] at h
      have h1 : 1 ≤ n := by
        cases n with
        | zero => simp at h; omega
        | succ k => omega
      have := ih (v / 10) h1 (by omega)
      omega

end Go.Proofs.YtdiojbgbeeojkaaGreatDoor

/-
  Twos and common divisors, in plain numbers.
-/
namespace Go.Proofs.YtdiojbgbeeojkaaGreatDoor
open Go.RowKit

/-- 2 divides v just t times. -/
def Tw (v t : Nat) : Prop := ∃ m, v = 2 ^ t * (2 * m + 1)

theorem Tw.pos {v t : Nat} (h : Tw v t) : 0 < v := by
  obtain ⟨m, rfl⟩ := h
  exact Nat.mul_pos (Nat.pow_pos (by decide)) (by omega)

theorem tw_ctz (x : Nat) (h0 : x ≠ 0) (h : x < B64) : Tw x (Lib.ctz 64 x) ∧ Lib.ctz 64 x < 64 := by
  unfold Lib.ctz
  rw [if_neg h0]
  obtain ⟨m, h1, h2⟩ := Lib.ctzFrom_spec 64 x (by omega) (by rw [B64_eq] at h; omega)
  exact ⟨⟨m, h1⟩, h2⟩

theorem B64_two : B64 = 2 ^ 64 := by rw [B64_eq]

/-- Words whose first k are noughts. -/
theorem tw_words (k x r t : Nat) (h : Tw x t) (ht : t < 64) : Tw (B64 ^ k * (x + B64 * r)) (64 * k + t) := by
  obtain ⟨m, rfl⟩ := h
  obtain ⟨d, hd⟩ : ∃ d, 64 = t + (d + 1) := ⟨63 - t, by omega⟩
  refine ⟨m + 2 ^ d * r, ?_⟩
  rw [B64_two, ← Nat.pow_mul, Nat.pow_add, Nat.mul_assoc]
  congr 1
  have e : (2 : Nat) ^ 64 = 2 ^ t * (2 * 2 ^ d) := by
    conv => lhs; rw [hd]
    rw [Nat.pow_add, Nat.pow_succ, Nat.mul_comm (2 ^ d) 2]
  rw [e, Nat.mul_assoc, ← Nat.mul_add]
  congr 1
  rw [Nat.mul_add, Nat.mul_assoc]
  omega

theorem val_noughts (l : List Nat) (k : Nat) (hk : k < l.length) (h : ∀ t, t < k → l.getD t 0 = 0) : val l = B64 ^ k * (l.getD k 0 + B64 * val (l.drop (k + 1))) := by
  induction k generalizing l with
  | zero =>
    cases l with
    | nil => simp at hk
    | cons x r => simp [val]
  | succ k ih =>
    cases l with
    | nil => simp at hk
    | cons x r =>
      have hx : x = 0 := by have := h 0 (by omega); simpa using this
      have := ih r (by simpa using hk) (fun t ht => by have := h (t + 1) (by omega); simpa using this)
      rw [val, hx, this, Nat.zero_add, Nat.pow_succ, Nat.mul_comm (B64 ^ k) B64, Nat.mul_assoc]
      simp

/-- What 2 divides oftener than t times it doesn't divide. -/
theorem Tw.dvd {v t : Nat} (h : Tw v t) (n : Nat) : v % 2 ^ n = 0 ↔ n ≤ t := by
  obtain ⟨m, rfl⟩ := h
  constructor
  · intro hd
    apply Nat.le_of_not_lt
    intro hlt
    obtain ⟨d, rfl⟩ : ∃ d, n = t + (d + 1) := ⟨n - t - 1, by omega⟩
    rw [Nat.pow_add, Nat.mul_mod_mul_left] at hd
    have hp : 0 < (2 : Nat) ^ t := Nat.pow_pos (by decide)
    have h1 : (2 * m + 1) % 2 ^ (d + 1) = 0 := by
      rcases Nat.mul_eq_zero.1 hd with h | h
      · omega
      · exact h
    rw [Nat.pow_succ, Nat.mul_comm (2 ^ d) 2] at h1
    have h2 : (2 * m + 1) % 2 = 0 := by
      have h3 := Nat.mod_mul_right_mod (2 * m + 1) 2 (2 ^ d)
      rw [h1] at h3; omega
    omega
  · intro hle
    obtain ⟨d, rfl⟩ : ∃ d, t = n + d := ⟨t - n, by omega⟩
    rw [Nat.pow_add, Nat.mul_assoc]
    exact Nat.mul_mod_right _ _

theorem Tw.half {v t : Nat} (h : Tw v t) : v = 2 ^ t * (v / 2 ^ t) ∧ (v / 2 ^ t) % 2 = 1 := by
  obtain ⟨m, rfl⟩ := h
  have hp : 0 < (2 : Nat) ^ t := Nat.pow_pos (by decide)
  rw [Nat.mul_div_cancel_left _ hp]
  exact ⟨rfl, by omega⟩

theorem odd_coprime (m d : Nat) (h : m % 2 = 1) : Nat.Coprime (2 ^ d) m := by
  apply Nat.Coprime.pow_left
  show Nat.gcd 2 m = 1
  rw [Nat.gcd_rec, h]
  decide

theorem gcd_twos_le {a b s t : Nat} (ha : Tw a s) (hb : Tw b t) (h : s ≤ t) : Nat.gcd a b = 2 ^ s * Nat.gcd (a / 2 ^ s) (b / 2 ^ t) := by
  obtain ⟨e1, o1⟩ := ha.half
  obtain ⟨e2, _⟩ := hb.half
  obtain ⟨d, rfl⟩ : ∃ d, t = s + d := ⟨t - s, by omega⟩
  generalize a / 2 ^ s = x at *
  generalize b / 2 ^ (s + d) = y at *
  rw [e1, e2, Nat.pow_add, Nat.mul_assoc, Nat.gcd_mul_left]
  congr 1
  rw [Nat.gcd_comm x, Nat.Coprime.gcd_mul_left_cancel y (odd_coprime x d o1), Nat.gcd_comm]

theorem gcd_twos {a b s t : Nat} (ha : Tw a s) (hb : Tw b t) : Nat.gcd a b = 2 ^ (min s t) * Nat.gcd (a / 2 ^ s) (b / 2 ^ t) := by
  rcases Nat.le_total s t with h | h
  · rw [Nat.min_eq_left h]; exact gcd_twos_le ha hb h
  · rw [Nat.min_eq_right h, Nat.gcd_comm, gcd_twos_le hb ha h, Nat.gcd_comm]

/-- One round of Gcd. -/
theorem gcd_step (a b : Int) (_hb : b ≠ 0) : Nat.gcd b.natAbs (a.tmod b).natAbs = Nat.gcd a.natAbs b.natAbs := by
  rw [Int.natAbs_tmod, Nat.gcd_comm b.natAbs, ← Nat.gcd_rec, Nat.gcd_comm]

end Go.Proofs.YtdiojbgbeeojkaaGreatDoor

/-
  A slice of bytes that grows: its block is its own and holds bytes alone; appending to it turns no word.
-/
namespace Go.Proofs.YtdiojbgbeeojkaaGreatDoor
open Go.RowKit

/-- Bytes as cells. -/
def byC (l : List UInt8) : List Value := l.map fun b => Value.int .u8 (b.toNat : Int)
theorem byC_length (l : List UInt8) : (byC l).length = l.length := by simp [byC]
theorem byC_append (l m : List UInt8) : byC (l ++ m) = byC l ++ byC m := by simp [byC]
theorem byC_one (l : List UInt8) : ∀ u ∈ byC l, u.oneCell' = true := by
  intro u hu
  simp only [byC, List.mem_map] at hu
  obtain ⟨b, _, rfl⟩ := hu
  rfl
theorem byC_u8 (l : List UInt8) : ∀ u ∈ byC l, ∃ x : Int, u = .int .u8 x := by
  intro u hu
  simp only [byC, List.mem_map] at hu
  obtain ⟨b, _, rfl⟩ := hu
  exact ⟨_, rfl⟩
theorem strCells_byC (l : List UInt8) : Lib.strCells ⟨l.toArray⟩ = byC l := by simp [Lib.strCells, byC]

/-- v is a slice of the bytes l, at the head of a block of its own that holds bytes alone. -/
def Own (w : World) (e : TypeId) (v : Value) (l : List UInt8) : Prop :=
  (v = .slice none 0 0 ∧ l = []) ∨
  ∃ g cap cur, v = .slice (some ⟨g, 0, none⟩) l.length cap ∧ w.heap[g]? = some (.cells cur e (0, 0)) ∧ l.length ≤ cap ∧ cap ≤ maxLen ∧ cur.size = cap ∧ cur.toList.take l.length = byC l ∧ ∀ u ∈ cur.toList, ∃ x : Int, u = .int .u8 x

theorem Own.nil (w : World) (e : TypeId) : Own w e (.slice none 0 0) [] := Or.inl ⟨rfl, rfl⟩

/-- v has become v' by appending: no other block has turned. -/
structure Apd (w w' : World) (v v' : Value) : Prop where
  grown : w.grownBy w' v.ownBlock
  lies : v'.ownBlock = v.ownBlock ∨ ∃ g, v'.ownBlock = some g ∧ w.heap.size ≤ g

theorem Apd.of_ext {w w' : World} (h : Ext w w') (v : Value) : Apd w w' v v :=
  ⟨⟨h.os, h.tape, h.output, h.size, fun k hk _ => h.block k hk⟩, Or.inl rfl⟩
theorem Apd.refl (w : World) (v : Value) : Apd w w v v := Apd.of_ext (Ext.refl w) v

theorem Apd.trans {a b c : World} {u v x : Value} (h : Apd a b u v) (k : Apd b c v x) : Apd a c u x := by
  refine ⟨⟨k.grown.os.trans h.grown.os, k.grown.tape.trans h.grown.tape, k.grown.output.trans h.grown.output, Nat.le_trans h.grown.size k.grown.size, fun i hi hne => ?_⟩, ?_⟩
  · rw [k.grown.block i (Nat.lt_of_lt_of_le hi h.grown.size) ?_, h.grown.block i hi hne]
    rcases h.lies with e | ⟨g, e, hg⟩
    · rw [e]; exact hne
    · rw [e]; intro h2; injection h2 with h2; omega
  · rcases k.lies with e | ⟨g, e, hg⟩
    · rw [e]; exact h.lies
    · exact Or.inr ⟨g, e, Nat.le_trans h.grown.size hg⟩

theorem Apd.ext {w w' : World} {v' : Value} (h : Apd w w' (.slice none 0 0) v') : Ext w w' :=
  ⟨h.grown.os, h.grown.tape, h.grown.output, h.grown.size, fun k hk => h.grown.block k hk (by simp [Value.ownBlock])⟩

theorem Own.lt {w : World} {e : TypeId} {v : Value} {l : List UInt8} (h : Own w e v l) : ∀ g, v.ownBlock = some g → g < w.heap.size := by
  intro g hg
  rcases h with ⟨rfl, _⟩ | ⟨g', cap, cur, rfl, hb, _⟩
  · simp [Value.ownBlock] at hg
  · simp [Value.ownBlock] at hg
    subst hg
    exact (Array.getElem?_eq_some_iff.1 hb).1

theorem Own.ext {w w' : World} {e : TypeId} {v : Value} {l : List UInt8} (h : Own w e v l) (k : Ext w w') : Own w' e v l := by
  rcases h with h | ⟨g, cap, cur, rfl, hb, rest⟩
  · exact Or.inl h
  · exact Or.inr ⟨g, cap, cur, rfl, (k.block g (Array.getElem?_eq_some_iff.1 hb).1).trans hb, rest⟩

/-- What is no byte lies in another block. -/
theorem Own.apart {w : World} {e : TypeId} {v : Value} {l : List UInt8} (h : Own w e v l) {b o : Nat} {u : Value} (hc : w.cell? ⟨b, o, none⟩ = some u) (hu : ∀ x, u ≠ .int .u8 x) : some b ≠ v.ownBlock := by
  intro hb
  rcases h with ⟨rfl, _⟩ | ⟨g, cap, cur, rfl, hg, _, _, _, _, hall⟩
  · simp [Value.ownBlock] at hb
  · simp only [Value.ownBlock, Option.some.injEq] at hb
    subst hb
    rw [cell_of_row w b o cur e (0, 0) hg] at hc
    obtain ⟨x, hx⟩ := hall u (List.mem_of_getElem? (by rw [Array.getElem?_toList]; exact hc))
    exact hu x hx

theorem Apd.cell {w w' : World} {e : TypeId} {v v' : Value} {l : List UInt8} (k : Apd w w' v v') (h : Own w e v l) {b o : Nat} {u : Value} (hc : w.cell? ⟨b, o, none⟩ = some u) (hu : ∀ x, u ≠ .int .u8 x) : w'.cell? ⟨b, o, none⟩ = some u :=
  k.grown.cell hc (h.apart hc hu)

theorem Seg.apd {w w' : World} {e : TypeId} {v v' : Value} {l : List UInt8} {ao : Option Addr} {la : List Nat} (h : Seg w ao la) (ho : Own w e v l) (k : Apd w w' v v') : Seg w' ao la := by
  rcases h with h | ⟨b, o, rfl, hb, hc⟩
  · exact Or.inl h
  · exact Or.inr ⟨b, o, rfl, Nat.lt_of_lt_of_le hb k.grown.size, fun t ht => k.cell ho (hc t ht) (fun x hx => by cases hx)⟩

/-- A table of words outlives what lays new blocks. -/
theorem tab_ext {P : Program} {w w' : World} {name : String} {k : IntKind} {zs : List Int} (h : Lib.TabIs P w name k zs) (he : Ext w w') : Lib.TabIs P w' name k zs := by
  unfold Lib.TabIs World.var? at *
  cases hg : P.globalNamed name with
  | none => simp [hg] at h
  | some g =>
    simp only [hg, Option.bind_some] at h ⊢
    have hlt : g < w.heap.size := by
      rcases Nat.lt_or_ge g w.heap.size with h' | h'
      · exact h'
      · rw [Array.getElem?_eq_none h'] at h; simp at h
    rw [he.block g hlt]
    exact h

theorem tab_apd {P : Program} {w w' : World} {name : String} {zs : List Int} {e : TypeId} {v v' : Value} {l : List UInt8} (h : Lib.TabIs P w name .u64 zs) (hz : zs ≠ []) (ho : Own w e v l) (k : Apd w w' v v') : Lib.TabIs P w' name .u64 zs := by
  unfold Lib.TabIs World.var? at *
  cases hg : P.globalNamed name with
  | none => simp [hg] at h
  | some g =>
    simp only [hg, Option.bind_some] at h ⊢
    cases hw : w.heap[g]? with
    | none => rw [hw] at h; simp at h
    | some ob =>
      have hlt : g < w.heap.size := (Array.getElem?_eq_some_iff.1 hw).1
      cases ob with
      | cells cs t fz =>
        rw [hw] at h
        simp only [Option.some.injEq] at h
        have hne : some g ≠ v.ownBlock := by
          cases zs with
          | nil => exact absurd rfl hz
          | cons z r =>
            have hc : w.cell? ⟨g, 0, none⟩ = some (.int .u64 z) := by
              rw [cell_of_row w g 0 cs t fz hw, h]; simp
            exact ho.apart hc (fun x hx => by cases hx)
        rw [k.grown.block g hlt hne, hw]
        simp [h]
      | _ => rw [hw] at h; simp at h

theorem zero_u8 (n : Nat) : ∀ u ∈ (Builtin.zeroCells (Value.int .u8 0).cells n).toList, ∃ x : Int, u = .int .u8 x := by
  intro u hu
  simp [Builtin.zeroCells, Value.cells, Nat.mod_one] at hu
  exact ⟨0, hu.2.symm⟩

/-- What growing leaves. -/
theorem own_new (w : World) (e : TypeId) (l m : List UInt8) (old : Nat) (v : Value) (hb : l.length + m.length ≤ 140737488355328) :
    Own (w.drew.alloc (.cells ((byC l).toArray ++ (byC m).toArray ++ Builtin.zeroCells (Value.int .u8 0).cells (grownCap w (l.length + m.length) old e - (l.length + m.length))) e)) e
        (.slice (some ⟨w.heap.size, 0, none⟩) (l.length + m.length) (grownCap w (l.length + m.length) old e)) (l ++ m) ∧
      Apd w (w.drew.alloc (.cells ((byC l).toArray ++ (byC m).toArray ++ Builtin.zeroCells (Value.int .u8 0).cells (grownCap w (l.length + m.length) old e - (l.length + m.length))) e)) v
        (.slice (some ⟨w.heap.size, 0, none⟩) (l.length + m.length) (grownCap w (l.length + m.length) old e)) := by
  have hge := grownCap_ge w (l.length + m.length) old e
  have hcm : grownCap w (l.length + m.length) old e ≤ maxLen := grownCap_le_maxLen w _ old e (by unfold maxLen; omega)
  refine ⟨Or.inr ⟨w.heap.size, _, _, by rw [List.length_append], heap_alloc_new w.drew _, by rw [List.length_append]; exact hge, hcm, ?_, ?_, ?_⟩, ⟨⟨rfl, rfl, rfl, by simp, fun k hk _ => Below.heap_alloc w.drew _ k hk⟩, Or.inr ⟨_, rfl, Nat.le_refl _⟩⟩⟩
  · have hz1 : (Value.int IntKind.u8 0).cells.size = 1 := rfl
    simp only [Array.size_append, List.size_toArray, size_zeroCells, hz1, byC_length]
    omega
  · simp only [Array.toList_append]
    rw [byC_append, ← List.length_append, ← byC_length (l ++ m), byC_append]
    exact List.take_left
  · intro u hu
    simp only [Array.toList_append, List.mem_append] at hu
    rcases hu with (hu | hu) | hu
    · exact byC_u8 l u hu
    · exact byC_u8 m u hu
    · exact zero_u8 _ u hu

/-- What stays in its room. -/
theorem own_room (w : World) (e : TypeId) (l m : List UInt8) (g cap : Nat) (cur : Array Value) (hg : w.heap[g]? = some (.cells cur e (0, 0))) (hcm : cap ≤ maxLen) (hcs : cur.size = cap) (ht : cur.toList.take l.length = byC l) (hall : ∀ u ∈ cur.toList, ∃ x : Int, u = .int .u8 x) (hroom : l.length + m.length ≤ cap) :
    Own (w.setRow g (cur.toList.take l.length ++ byC m ++ cur.toList.drop (l.length + m.length)).toArray) e (.slice (some ⟨g, 0, none⟩) (l.length + m.length) cap) (l ++ m) ∧
      Apd w (w.setRow g (cur.toList.take l.length ++ byC m ++ cur.toList.drop (l.length + m.length)).toArray) (.slice (some ⟨g, 0, none⟩) l.length cap) (.slice (some ⟨g, 0, none⟩) (l.length + m.length) cap) := by
  refine ⟨Or.inr ⟨g, cap, _, by rw [List.length_append], setRow_heap w g cur _ e _ hg, by rw [List.length_append]; exact hroom, hcm, ?_, ?_, ?_⟩, ⟨⟨rfl, rfl, rfl, by simp, fun k _ hk => setRow_other w g k _ (fun h => hk (by simp [Value.ownBlock, h]))⟩, Or.inl rfl⟩⟩
  · simp only [List.size_toArray, List.length_append, List.length_take, List.length_drop, Array.length_toList, byC_length]
    omega
  · rw [ht, byC_append, ← byC_length (l ++ m), byC_append]
    exact List.take_left
  · intro u hu
    simp only [List.mem_append] at hu
    rcases hu with (hu | hu) | hu
    · exact hall u (List.mem_of_mem_take hu)
    · exact byC_u8 m u hu
    · exact hall u (List.mem_of_mem_drop hu)

section
variable {P : Program} (w : World)

theorem Own.holds {e : TypeId} {g : Nat} {l : List UInt8} {cur : Array Value} (hg : w.heap[g]? = some (.cells cur e (0, 0))) (ht : cur.toList.take l.length = byC l) : ∀ j u, (byC l)[j]? = some u → w.cell? ((⟨g, 0, none⟩ : Addr).add j) = some u := by
  intro j u hu
  have hadd : (⟨g, 0, none⟩ : Addr).add j = ⟨g, j, none⟩ := by unfold Addr.add; split <;> simp_all
  rw [hadd, cell_of_row w g j cur e (0, 0) hg]
  rw [← ht, List.getElem?_take] at hu
  split at hu
  · simpa using hu
  · cases hu

theorem run_append_bytes (t ty e : TypeId) (i : TypeInfo) (ht : P.underlying t = some (.slice e)) (hi : P.info? e = some i) (hz : i.zero = some (.int .u8 0)) (hsize : i.size = 1) (hby : i.bytes = 1)
    (v : Value) (l : List UInt8) (hown : Own w e v l) (a : Addr) (m c : Nat) (news : List UInt8) (hm : news.length = m) (hm0 : 0 < m) (hnews : ∀ j u, (byC news)[j]? = some u → w.cell? (a.add j) = some u) (hb : l.length + news.length ≤ 140737488355328) :
    ∃ v' w', (Builtin.append_ #[t, t] ty #[v, .slice (some a) m c]).run P w = .ok v' w' ∧ Own w' e v' (l ++ news) ∧ Apd w w' v v' := by
  subst hm
  have hl : (byC news).length = news.length * i.size := by rw [byC_length, hsize, Nat.mul_one]
  rcases hown with ⟨rfl, rfl⟩ | ⟨g, cap, cur, rfl, hg, hlc, hcm, hcs, htk, hall⟩
  · have hr := run_append_nil (P := P) w t ty e i (.int .u8 0) ht hi hz a news.length c (byC news) hl hnews hm0 (by simp at hb; omega) (by rw [hby]; simp at hb; omega)
    have hn := own_new w e [] news 0 (.slice none 0 0) hb
    simp only [List.length_nil, Nat.zero_add, List.nil_append, byC, List.map_nil, Array.empty_append] at hn hr ⊢
    exact ⟨_, _, hr, hn.1, hn.2⟩
  · by_cases hroom : l.length + news.length ≤ cap
    · have hr := run_append_room (P := P) w t ty e i ht hi g l.length cap cur hg a news.length c (byC news) hl hnews (byC_one news) hroom (by rw [hsize, byC_length, hcs, Nat.mul_one]; exact hroom)
      rw [hsize, Nat.mul_one, byC_length] at hr
      have hn := own_room w e l news g cap cur hg hcm hcs htk hall hroom
      exact ⟨_, _, hr, hn.1, hn.2⟩
    · have hr := run_append_grow (P := P) w t ty e i (.int .u8 0) ht hi hz ⟨g, 0, none⟩ l.length cap (byC l) (by rw [byC_length, hsize, Nat.mul_one]) (Own.holds w hg htk) a news.length c (byC news) hl hnews (by omega) (by omega) (by rw [hby]; exact growslice_fits (by omega) (by omega))
      have hn := own_new w e l news cap (.slice (some ⟨g, 0, none⟩) l.length cap) hb
      exact ⟨_, _, hr, hn.1, hn.2⟩

theorem run_append_text (t u ty e : TypeId) (i : TypeInfo) (ht : P.underlying t = some (.slice e)) (hu : P.underlying u = some .string) (hi : P.info? e = some i) (hz : i.zero = some (.int .u8 0)) (hsize : i.size = 1) (hby : i.bytes = 1)
    (v : Value) (l : List UInt8) (hown : Own w e v l) (news : List UInt8) (hm0 : 0 < news.length) (hb : l.length + news.length ≤ 140737488355328) :
    ∃ v' w', (Builtin.append_ #[t, u] ty #[v, .string ⟨news.toArray⟩]).run P w = .ok v' w' ∧ Own w' e v' (l ++ news) ∧ Apd w w' v v' := by
  have hs : (⟨news.toArray⟩ : ByteArray).size = news.length := by simp [ByteArray.size]
  have hsc := strCells_byC news
  rcases hown with ⟨rfl, rfl⟩ | ⟨g, cap, cur, rfl, hg, hlc, hcm, hcs, htk, hall⟩
  · have hr := run_append_nil_string (P := P) w t u ty e i (.int .u8 0) ht hu hi hz ⟨news.toArray⟩ (by rw [hs]; exact hm0) (by rw [hs]; simp at hb; omega) (by rw [hs, hby]; simp at hb; omega)
    have hn := own_new w e [] news 0 (.slice none 0 0) hb
    have e1 : ((⟨news.toArray⟩ : ByteArray).data.map fun b => Value.int .u8 b.toNat) = (byC news).toArray := by
      apply Array.ext'
      simp [byC]
    rw [hs, e1] at hr
    simp only [List.length_nil, Nat.zero_add, List.nil_append, byC, List.map_nil, Array.empty_append] at hn hr ⊢
    exact ⟨_, _, hr, hn.1, hn.2⟩
  · by_cases hroom : l.length + news.length ≤ cap
    · have hr := Lib.run_append_room_string (P := P) w t u ty e i ht hu hi hsize g l.length cap cur hg ⟨news.toArray⟩ (by rw [hs]; exact hroom) (by rw [hs, hcs]; exact hroom)
      rw [hs, hsc] at hr
      have hn := own_room w e l news g cap cur hg hcm hcs htk hall hroom
      exact ⟨_, _, hr, hn.1, hn.2⟩
    · have hr := Lib.run_append_grow_string (P := P) w t u ty e i (.int .u8 0) ht hu hi hz ⟨g, 0, none⟩ l.length cap (byC l) (by rw [byC_length, hsize, Nat.mul_one]) (Own.holds w hg htk) ⟨news.toArray⟩ (by rw [hs]; omega) (by rw [hs]; omega) (by rw [hs, hby]; exact growslice_fits (by omega) (by omega))
      rw [hs, hsc] at hr
      have hn := own_new w e l news cap (.slice (some ⟨g, 0, none⟩) l.length cap) hb
      exact ⟨_, _, hr, hn.1, hn.2⟩

theorem wpList_append_bytes {ops : Array Oper} {rest : List Oper} {o : Oper} {a : Act} {Q : Exit → Act → World → Prop} (hgd : o.guard = none) (s x : Operand) (t : TypeId)
    (ho : o.op = .call { callee := .builtin .append, args := #[s, x], argTypes := #[t, t] })
    (e : TypeId) (i : TypeInfo) (ht : P.underlying t = some (.slice e)) (hi : P.info? e = some i) (hz : i.zero = some (.int .u8 0)) (hsize : i.size = 1) (hby : i.bytes = 1)
    (v : Value) (l : List UInt8) (hs : a.eval s = v) (hown : Own w e v l) (ad : Addr) (m c : Nat) (news : List UInt8) (hx : a.eval x = .slice (some ad) m c) (hm : news.length = m) (hm0 : 0 < m) (hnews : ∀ j u, (byC news)[j]? = some u → w.cell? (ad.add j) = some u) (hb : l.length + news.length ≤ 140737488355328)
    (h : ∀ v' w', Own w' e v' (l ++ news) → Apd w w' v v' → wpList P ops Q rest (a.put o.dst v') w') : wpList P ops Q (o :: rest) a w := by
  refine wpList_plain hgd fun _ hK => ?_
  obtain ⟨v', w', hr, h2, h3⟩ := run_append_bytes (P := P) w t o.type e i ht hi hz hsize hby v l hown ad m c news hm hm0 hnews hb
  unfold Oper.wp execOp
  simp only [ho, resolve, invoke, builtin, Sem.run_bind, Sem.run_pure, Result.andThen_ok, List.map_toArray, List.map_cons, List.map_nil, hs, hx, hr]
  exact hK _ _ (h v' w' h2 h3)

theorem wpList_append_text {ops : Array Oper} {rest : List Oper} {o : Oper} {a : Act} {Q : Exit → Act → World → Prop} (hgd : o.guard = none) (s x : Operand) (t u : TypeId)
    (ho : o.op = .call { callee := .builtin .append, args := #[s, x], argTypes := #[t, u] })
    (e : TypeId) (i : TypeInfo) (ht : P.underlying t = some (.slice e)) (hu : P.underlying u = some .string) (hi : P.info? e = some i) (hz : i.zero = some (.int .u8 0)) (hsize : i.size = 1) (hby : i.bytes = 1)
    (v : Value) (l : List UInt8) (hs : a.eval s = v) (hown : Own w e v l) (news : List UInt8) (hx : a.eval x = .string ⟨news.toArray⟩) (hm0 : 0 < news.length) (hb : l.length + news.length ≤ 140737488355328)
    (h : ∀ v' w', Own w' e v' (l ++ news) → Apd w w' v v' → wpList P ops Q rest (a.put o.dst v') w') : wpList P ops Q (o :: rest) a w := by
  refine wpList_plain hgd fun _ hK => ?_
  obtain ⟨v', w', hr, h2, h3⟩ := run_append_text (P := P) w t u o.type e i ht hu hi hz hsize hby v l hown news hm0 hb
  unfold Oper.wp execOp
  simp only [ho, resolve, invoke, builtin, Sem.run_bind, Sem.run_pure, Result.andThen_ok, List.map_toArray, List.map_cons, List.map_nil, hs, hx, hr]
  exact hK _ _ (h v' w' h2 h3)

end

end Go.Proofs.YtdiojbgbeeojkaaGreatDoor
