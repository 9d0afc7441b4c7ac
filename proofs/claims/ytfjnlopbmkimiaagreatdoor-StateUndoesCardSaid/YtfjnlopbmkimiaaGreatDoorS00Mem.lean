/-
  The numbers of circuits in plain numbers: a sum of multiples of z^0 to z^7 with z^8 = -1, as a function of the power that turns its sign each eight steps; sum, product, mirror, turn; which laws they keep. Nothing of the program stands here. The numbers of circuits in plain numbers: a sum of powers of z over a power of two; when two are one number; sums, products, mirrors, turns of them; the one way in which each is kept. Nothing of the program stands here. A power of z taken by its low bits: k & 7 and k & 8 at any int. Nothing of the program stands here. Plain facts on words (digits to the base 2^64, the lowest first) and the numbers that they make. No program is named here. Twos and common divisors, in plain numbers. What memory holds, said of words: a slice that is read (Seg), a block of words that is written (Row), and what a call leaves as it was (Ext, Only).
-/
import Derived.Lib.TrailingZeros
import Derived.WalkKit
import Derived.WalkLawsBesides
import Derived.WalkSpells
namespace Go.Proofs.YtfjnlopbmkimiaaGreatDoor

/-- The sum over eight powers. -/
def sum8 (f : Int → Int) : Int := f 0 + f 1 + f 2 + f 3 + f 4 + f 5 + f 6 + f 7
def Per (f : Int → Int) : Prop := ∀ k, f (k + 8) = f k
def Anti (a : Int → Int) : Prop := ∀ k, a (k + 8) = -a k

theorem sum8_congr {f g : Int → Int} (h : ∀ i, f i = g i) : sum8 f = sum8 g := by simp only [sum8, h]
theorem sum8_neg (f : Int → Int) : sum8 (fun i => -f i) = -sum8 f := by simp only [sum8]; omega
theorem sum8_up {f : Int → Int} (h : Per f) : sum8 (fun i => f (i + 1)) = sum8 f := by
  have h0 := h 0
  simp only [sum8]
  simp only [Int.zero_add, Int.reduceAdd] at h0 ⊢
  omega
theorem Per.up {f : Int → Int} (h : Per f) (m : Int) : Per fun i => f (i + m) := fun k => by
  show f (k + 8 + m) = f (k + m)
  rw [show k + 8 + m = k + m + 8 by omega, h]
theorem sum8_upN {f : Int → Int} (h : Per f) : ∀ m : Nat, sum8 (fun i => f (i + m)) = sum8 f
  | 0 => sum8_congr fun i => by simp
  | m + 1 => by
    rw [← sum8_upN h m, ← sum8_up (h.up m)]
    exact sum8_congr fun i => by congr 1; omega
/-- A sum over a whole round may begin anywhere. -/
theorem sum8_shift {f : Int → Int} (h : Per f) (m : Int) : sum8 (fun i => f (i + m)) = sum8 f := by
  obtain ⟨k, rfl | rfl⟩ := m.eq_nat_or_neg
  · exact sum8_upN h k
  · have h1 := sum8_upN (h.up (-(k : Int))) k
    rw [← h1]
    exact sum8_congr fun i => by congr 1; omega
theorem Anti.back {a : Int → Int} (h : Anti a) (k : Int) : a (k - 8) = -a k := by
  have := h (k - 8); rw [show k - 8 + 8 = k by omega] at this; omega
/-- What the eight first values are decides all. -/
theorem Anti.ext {a b : Int → Int} (ha : Anti a) (hb : Anti b) (h : ∀ j : Int, 0 ≤ j → j < 8 → a j = b j) : a = b := by
  have up : ∀ m : Nat, ∀ j : Int, 0 ≤ j → j < 8 → a (j + 8 * m) = b (j + 8 * m) ∧ a (j - 8 * m) = b (j - 8 * m) := by
    intro m
    induction m with
    | zero => intro j h0 h1; simp [h j h0 h1]
    | succ m ih =>
      intro j h0 h1
      obtain ⟨i1, i2⟩ := ih j h0 h1
      rw [show j + 8 * ((m + 1 : Nat) : Int) = j + 8 * m + 8 by omega, show j - 8 * ((m + 1 : Nat) : Int) = j - 8 * m - 8 by omega, ha, hb, ha.back, hb.back, i1, i2]
      exact ⟨rfl, rfl⟩
  funext k
  by_cases hk : 0 ≤ k
  · have := (up (k / 8).toNat (k % 8) (by omega) (by omega)).1
    rwa [show k % 8 + 8 * (((k / 8).toNat : Nat) : Int) = k by omega] at this
  · have := (up (-(k / 8)).toNat (k % 8) (by omega) (by omega)).2
    rwa [show k % 8 - 8 * (((-(k / 8)).toNat : Nat) : Int) = k by omega] at this
theorem anti_zero : Anti fun _ => 0 := fun _ => rfl
theorem all_zero {a : Int → Int} (ha : Anti a) (h : ∀ j : Int, 0 ≤ j → j < 8 → a j = 0) : ∀ k, a k = 0 := fun k => by
  have := ha.ext anti_zero h; rw [this]

def addR (a b : Int → Int) : Int → Int := fun k => a k + b k
def trR (m : Int) (a : Int → Int) : Int → Int := fun k => a (k - m)
def negR (a : Int → Int) : Int → Int := fun k => -a k
/-- 1. -/
def oneR : Int → Int := fun k => if k % 16 = 0 then 1 else if k % 16 = 8 then -1 else 0

theorem anti_one : Anti oneR := fun k => by unfold oneR; repeat (split); all_goals omega
theorem Anti.add {a b : Int → Int} (ha : Anti a) (hb : Anti b) : Anti (addR a b) := fun k => by unfold addR; rw [ha, hb]; omega
theorem Anti.neg {a : Int → Int} (ha : Anti a) : Anti (negR a) := fun k => by unfold negR; rw [ha]
theorem Anti.tr {a : Int → Int} (ha : Anti a) (m : Int) : Anti (trR m a) := fun k => by
  unfold trR
  rw [show k + 8 - m = k - m + 8 by omega, ha]

end Go.Proofs.YtfjnlopbmkimiaaGreatDoor
namespace Go.Proofs.YtfjnlopbmkimiaaGreatDoor

/-- A sum over 2^e. -/
structure Nm where
  a : Int → Int
  e : Nat

/-- One number. -/
def EqN (x y : Nm) : Prop := ∀ k, x.a k * 2 ^ y.e = y.a k * 2 ^ x.e

theorem two_ne (n : Nat) : (2 : Int) ^ n ≠ 0 := Int.ne_of_gt (Int.pow_pos (by decide))
theorem EqN.refl (x : Nm) : EqN x x := fun _ => rfl
theorem EqN.symm {x y : Nm} (h : EqN x y) : EqN y x := fun k => (h k).symm
theorem EqN.trans {x y z : Nm} (h : EqN x y) (g : EqN y z) : EqN x z := fun k => by
  have h1 := h k; have g1 := g k
  have : x.a k * 2 ^ z.e * 2 ^ y.e = z.a k * 2 ^ x.e * 2 ^ y.e := by grind
  exact Int.eq_of_mul_eq_mul_right (two_ne _) this
def nAdd (x y : Nm) : Nm := ⟨fun k => x.a k * 2 ^ y.e + y.a k * 2 ^ x.e, x.e + y.e⟩
def nTr (m : Int) (x : Nm) : Nm := ⟨trR m x.a, x.e⟩
def nNeg (x : Nm) : Nm := ⟨negR x.a, x.e⟩
def nOne : Nm := ⟨oneR, 0⟩
/-- One over the root of two. -/
def nRt : Nm := ⟨addR (trR 2 oneR) (trR (-2) oneR), 1⟩

theorem EqN.add {x x' y y' : Nm} (h : EqN x x') (g : EqN y y') : EqN (nAdd x y) (nAdd x' y') := fun k => by
  have h1 := h k; have g1 := g k
  simp only [nAdd, Int.pow_add]
  grind
theorem EqN.neg {x x' : Nm} (h : EqN x x') : EqN (nNeg x) (nNeg x') := fun k => by
  have := h k
  simp only [nNeg, negR, Int.neg_mul, this]

/-! The laws. -/
/-! The one way. -/
/-- Kept as it must be: over 1, or one of the multiples is odd. -/
def Low (x : Nm) : Prop := x.e = 0 ∨ ∃ k, x.a k % 2 = 1
theorem low_le {x y : Nm} (hx : Low x) (h : EqN x y) : x.e ≤ y.e := by
  rcases hx with h0 | ⟨k, hk⟩
  · omega
  · apply Nat.le_of_not_lt
    intro hlt
    have h1 := h k
    obtain ⟨d, hd⟩ : ∃ d, x.e = y.e + (d + 1) := ⟨x.e - y.e - 1, by omega⟩
    rw [hd, Int.pow_add, ← Int.mul_assoc, Int.mul_assoc (y.a k), Int.mul_comm (2 ^ y.e), ← Int.mul_assoc] at h1
    have h2 := Int.eq_of_mul_eq_mul_right (two_ne _) h1
    rw [Int.pow_succ, ← Int.mul_assoc] at h2
    omega
theorem low_one {x y : Nm} (hx : Low x) (hy : Low y) (h : EqN x y) : x = y := by
  have he : x.e = y.e := Nat.le_antisymm (low_le hx h) (low_le hy h.symm)
  obtain ⟨a, e⟩ := x
  obtain ⟨b, f⟩ := y
  simp only at he
  subst he
  congr 1
  funext k
  exact Int.eq_of_mul_eq_mul_right (two_ne e) (h k)
end Go.Proofs.YtfjnlopbmkimiaaGreatDoor
namespace Go.Proofs.YtfjnlopbmkimiaaGreatDoor

theorem ofInt_toNat (k : Int) : ((BitVec.ofInt 64 k).toNat : Int) = k % 18446744073709551616 := by
  rw [BitVec.toNat_ofInt]; omega
theorem and7 (k : Int) : bits .and .i64 k 7 = k % 8 := by
  show IntKind.i64.wrap ((BitVec.ofInt 64 k &&& BitVec.ofInt 64 7).toNat : Int) = _
  have h1 := ofInt_toNat k
  have h2 : (BitVec.ofInt 64 7).toNat = 2 ^ 3 - 1 := by decide
  rw [BitVec.toNat_and, h2, Nat.and_two_pow_sub_one_eq_mod, IntKind.wrap_i64]
  omega
theorem nat_and8 (n : Nat) : n &&& 8 = if n % 16 < 8 then 0 else 8 := by
  have h : n &&& 8 = n % 16 &&& 8 := by
    rw [show n % 16 = n &&& 2 ^ 4 - 1 from (Nat.and_two_pow_sub_one_eq_mod n 4).symm, Nat.and_assoc]
    rfl
  have t : ∀ m : Nat, m < 16 → m &&& 8 = if m < 8 then 0 else 8 := by decide
  rw [h, t _ (Nat.mod_lt _ (by decide))]
theorem and8 (k : Int) : bits .and .i64 k 8 = if k % 16 < 8 then 0 else 8 := by
  show IntKind.i64.wrap ((BitVec.ofInt 64 k &&& BitVec.ofInt 64 8).toNat : Int) = _
  have h1 := ofInt_toNat k
  have h2 : (BitVec.ofInt 64 8).toNat = 8 := by decide
  rw [BitVec.toNat_and, h2, nat_and8, IntKind.wrap_i64]
  split <;> split <;> omega

/-- z^k times n, as a sum. -/
def mono (k n : Int) : Int → Int := fun j => if (j - k) % 16 = 0 then n else if (j - k) % 16 = 8 then -n else 0
theorem anti_mono (k n : Int) : Anti (mono k n) := fun j => by unfold mono; repeat (split); all_goals omega
/-- What r.add(k, n) makes of the eight numbers: one of them grows by n or by -n. -/
theorem add_mono (a : Int → Int) (k n : Int) (j : Int) (h0 : 0 ≤ j) (h1 : j < 8) : addR a (mono k n) j = if j = k % 8 then a j + (if k % 16 < 8 then n else -n) else a j := by
  unfold addR mono
  repeat (split)
  all_goals omega
theorem mono_tr (k : Int) : mono k 1 = trR k oneR := by
  funext j; unfold mono trR oneR; rfl
theorem mono_neg (k n : Int) : mono (k + 8) n = mono k (-n) := by
  funext j; unfold mono; repeat (split); all_goals omega

/-- A sum is the sum of its eight powers. -/
theorem sum_monos {a : Int → Int} (ha : Anti a) (m : Int) : (fun j => sum8 fun i => mono (i + m) (a i) j) = trR m a := by
  refine Anti.ext (fun j => ?_) (ha.tr m) fun j h0 h1 => ?_
  · show sum8 (fun i => mono (i + m) (a i) (j + 8)) = -sum8 fun i => mono (i + m) (a i) j
    rw [← sum8_neg]
    exact sum8_congr fun i => anti_mono _ _ j
  · have hp : Per fun i => mono (i + m) (a i) j := fun i => by
      show mono (i + 8 + m) (a (i + 8)) j = _
      rw [ha, show i + 8 + m = i + m + 8 by omega, mono_neg, Int.neg_neg]
    show sum8 (fun i => mono (i + m) (a i) j) = a (j - m)
    rw [← sum8_shift hp (j - m)]
    have e : ∀ i : Int, mono (i + (j - m) + m) (a (i + (j - m))) j = if (-i) % 16 = 0 then a (i + (j - m)) else if (-i) % 16 = 8 then -a (i + (j - m)) else 0 := fun i => by
      unfold mono; rw [show j - (i + (j - m) + m) = -i by omega]
    simp only [e, sum8]
    simp
end Go.Proofs.YtfjnlopbmkimiaaGreatDoor
namespace Go.Proofs.YtfjnlopbmkimiaaGreatDoor
open Go.RowKit

/-- The base of the words. -/
def B64 : Nat := 18446744073709551616
theorem B64_eq : B64 = 18446744073709551616 := rfl
theorem B64_pos : 0 < B64 := by unfold B64; omega

/-- The number that words make. -/
def val : List Nat → Nat
  | [] => 0
  | x :: r => x + B64 * val r

/-- Each is a word. -/
def Dig (l : List Nat) : Prop := ∀ x ∈ l, x < B64

/-- How many words are left without the noughts at the end. -/
def nlen : List Nat → Nat
  | [] => 0
  | x :: r => if nlen r = 0 ∧ x = 0 then 0 else nlen r + 1

theorem nlen_le (l : List Nat) : nlen l ≤ l.length := by
  induction l with
  | nil => simp [nlen]
  | cons x r ih => simp only [nlen, List.length_cons]; split <;> omega

/-- The last word is not nought. -/
def Nrm (l : List Nat) : Prop := nlen l = l.length

theorem val_append (a b : List Nat) : val (a ++ b) = val a + B64 ^ a.length * val b := by
  induction a with
  | nil => simp [val]
  | cons x r ih =>
    simp only [List.cons_append, val, ih, List.length_cons]
    rw [Nat.pow_succ', Nat.mul_add, Nat.mul_assoc]; omega

theorem val_take_nlen (l : List Nat) : val (l.take (nlen l)) = val l := by
  induction l with
  | nil => rfl
  | cons x r ih =>
    simp only [nlen]
    split
    · rename_i h
      obtain ⟨h1, h2⟩ := h
      rw [h1] at ih
      simp only [List.take_zero, val] at ih ⊢
      rw [← ih, h2]; simp
    · simp only [List.take_succ_cons, val, ih]

theorem nlen_take (l : List Nat) : nlen (l.take (nlen l)) = nlen l := by
  induction l with
  | nil => rfl
  | cons x r ih =>
    simp only [nlen]
    split
    · simp [nlen]
    · rename_i h
      simp only [List.take_succ_cons, nlen, ih]
      rw [if_neg h]

theorem Nrm_take (l : List Nat) : Nrm (l.take (nlen l)) := by
  unfold Nrm
  rw [nlen_take, List.length_take]
  have := nlen_le l
  omega

theorem Dig.take {l : List Nat} (h : Dig l) (n : Nat) : Dig (l.take n) := fun x hx => h x (List.mem_of_mem_take hx)
theorem Dig.drop {l : List Nat} (h : Dig l) (n : Nat) : Dig (l.drop n) := fun x hx => h x (List.mem_of_mem_drop hx)
theorem Dig.append {a b : List Nat} (h : Dig a) (k : Dig b) : Dig (a ++ b) := fun x hx => (List.mem_append.1 hx).elim (h x) (k x)
theorem Dig.nil : Dig [] := fun x hx => by simp at hx
theorem Dig.cons {x : Nat} {l : List Nat} (hx : x < B64) (h : Dig l) : Dig (x :: l) := fun y hy => by
  rcases List.mem_cons.1 hy with rfl | hy
  · exact hx
  · exact h y hy
theorem Dig.getD {l : List Nat} (h : Dig l) (t : Nat) : l.getD t 0 < B64 := by
  by_cases ht : t < l.length
  · rw [List.getD_eq_getElem?_getD, List.getElem?_eq_getElem ht]
    exact h _ (List.getElem_mem ht)
  · rw [List.getD_eq_getElem?_getD, List.getElem?_eq_none (by omega)]
    exact B64_pos

theorem val_lt {l : List Nat} (h : Dig l) : val l < B64 ^ l.length := by
  induction l with
  | nil => simp [val]
  | cons x r ih =>
    have hx : x < B64 := h x (List.mem_cons_self ..)
    have hr := ih (fun y hy => h y (List.mem_cons_of_mem _ hy))
    simp only [val, List.length_cons, Nat.pow_succ']
    have : B64 * (val r + 1) ≤ B64 * B64 ^ r.length := Nat.mul_le_mul_left _ hr
    rw [Nat.mul_add] at this
    omega

/-- Noughts at the end: the n-th place is the last that isn't one, seen from above. -/
theorem nlen_of_last (l : List Nat) (n : Nat) (hn : n ≤ l.length) (h0 : ∀ t, n ≤ t → l.getD t 0 = 0) (h1 : n = 0 ∨ l.getD (n - 1) 0 ≠ 0) : nlen l = n := by
  induction l generalizing n with
  | nil => simp at hn; simp [nlen, hn]
  | cons x r ih =>
    cases n with
    | zero =>
      have hr : nlen r = 0 := ih 0 (Nat.zero_le _) (fun t _ => by have := h0 (t + 1) (by omega); simpa using this) (Or.inl rfl)
      have hx : x = 0 := by have := h0 0 (by omega); simpa using this
      simp [nlen, hr, hx]
    | succ m =>
      have hr : nlen r = m := by
        refine ih m (by simpa using hn) (fun t ht => by have := h0 (t + 1) (by omega); simpa using this) ?_
        cases m with
        | zero => exact Or.inl rfl
        | succ k => right; have := h1.resolve_left (by omega); simpa using this
      simp only [nlen, hr]
      rw [if_neg]
      rintro ⟨rfl, hx⟩
      have := h1.resolve_left (by omega)
      simp [hx] at this

/-- The n words of L from the o-th on. -/
def seg (L : List Nat) (o n : Nat) : List Nat := (L.drop o).take n

theorem seg_length (L : List Nat) (o n : Nat) (h : o + n ≤ L.length) : (seg L o n).length = n := by
  unfold seg; rw [List.length_take, List.length_drop]; omega

theorem seg_zero (L : List Nat) (o : Nat) : seg L o 0 = [] := by simp [seg]

theorem seg_succ (L : List Nat) (o n : Nat) (h : o + n < L.length) : seg L o (n + 1) = seg L o n ++ [L.getD (o + n) 0] := by
  unfold seg
  rw [List.take_succ_eq_append_getElem (by rw [List.length_drop]; omega)]
  congr 2
  rw [List.getElem_drop, List.getD_eq_getElem?_getD, List.getElem?_eq_getElem h]
  rfl

theorem take_succ_getD (l : List Nat) (n : Nat) (h : n < l.length) : l.take (n + 1) = l.take n ++ [l.getD n 0] := by
  rw [List.take_succ_eq_append_getElem h, List.getD_eq_getElem?_getD, List.getElem?_eq_getElem h]
  rfl

theorem seg_congr (L M : List Nat) (o n : Nat) (hl : L.length = M.length) (h : ∀ t, o ≤ t → t < o + n → L.getD t 0 = M.getD t 0) : seg L o n = seg M o n := by
  unfold seg
  apply List.ext_getElem?
  intro i
  rw [List.getElem?_take, List.getElem?_take]
  split
  · rw [List.getElem?_drop, List.getElem?_drop]
    by_cases hi : o + i < L.length
    · have := h (o + i) (by omega) (by omega)
      rw [List.getD_eq_getElem?_getD, List.getD_eq_getElem?_getD, List.getElem?_eq_getElem hi, List.getElem?_eq_getElem (by omega)] at this
      rw [List.getElem?_eq_getElem hi, List.getElem?_eq_getElem (by omega)]
      simpa using this
    · rw [List.getElem?_eq_none (by omega), List.getElem?_eq_none (by omega)]
  · rfl

theorem getD_set_ne (L : List Nat) (i j x : Nat) (h : i ≠ j) : (L.set i x).getD j 0 = L.getD j 0 := by
  rw [List.getD_eq_getElem?_getD, List.getD_eq_getElem?_getD, List.getElem?_set_ne h]

theorem getD_set_eq (L : List Nat) (i x : Nat) (h : i < L.length) : (L.set i x).getD i 0 = x := by
  rw [List.getD_eq_getElem?_getD, List.getElem?_set_self h]; rfl

theorem Dig.set {L : List Nat} (h : Dig L) (i x : Nat) (hx : x < B64) : Dig (L.set i x) := fun y hy => by
  rcases List.mem_or_eq_of_mem_set hy with h1 | h1
  · exact h y h1
  · rw [h1]; exact hx

/-- Only the n words from the o-th on have turned. -/
def Turned (L M : List Nat) (o n : Nat) : Prop := M.length = L.length ∧ ∀ t, (t < o ∨ o + n ≤ t) → M.getD t 0 = L.getD t 0

theorem Turned.refl (L : List Nat) (o n : Nat) : Turned L L o n := ⟨rfl, fun _ _ => rfl⟩

theorem Turned.step {L M : List Nat} {o k : Nat} (h : Turned L M o k) (x : Nat) : Turned L (M.set (o + k) x) o (k + 1) :=
  ⟨by rw [List.length_set]; exact h.1, fun t ht => by rw [getD_set_ne _ _ _ _ (by omega)]; exact h.2 t (by omega)⟩

theorem val_snoc (l : List Nat) (x : Nat) : val (l ++ [x]) = val l + B64 ^ l.length * x := by rw [val_append]; simp [val]

theorem seg_step {L M : List Nat} {o k : Nat} (h : Turned L M o k) (x : Nat) (hk : o + k < L.length) : seg (M.set (o + k) x) o (k + 1) = seg M o k ++ [x] := by
  rw [seg_succ _ _ _ (by rw [List.length_set, h.1]; exact hk), getD_set_eq _ _ _ (by rw [h.1]; exact hk)]
  congr 1
  exact seg_congr _ _ _ _ (by rw [List.length_set]) (fun t _ ht => getD_set_ne _ _ _ _ (by omega))

/-- One step of a sum with a product: what is carried stands for all that is still to be added. -/
theorem muladd_step (k P S A x q y d z word over over' : Nat) (hinv : P + B64 ^ k * over = S + A * word) (hx : x + B64 * over' = y + d * word + over) (hz : z = B64 ^ k)
    (hq : q = P + z * x) : q + B64 ^ (k + 1) * over' = (S + z * y) + (A + z * d) * word := by
  subst hz hq
  have e : B64 ^ (k + 1) * over' = B64 ^ k * (B64 * over') := by rw [Nat.pow_succ, Nat.mul_assoc]
  have e2 : B64 ^ k * (x + B64 * over') = B64 ^ k * (y + d * word + over) := by rw [hx]
  rw [Nat.mul_add, Nat.mul_add, Nat.mul_add] at e2
  have e3 : (A + B64 ^ k * d) * word = A * word + B64 ^ k * (d * word) := by rw [Nat.add_mul, Nat.mul_assoc]
  rw [e, e3]
  omega

theorem addProd_step {L M la : List Nat} {o k word over over' x y d : Nat} (hT : Turned L M o k) (hn : o + la.length ≤ L.length) (hk : k < la.length)
    (hinv : val (seg M o k) + B64 ^ k * over = val (seg L o k) + val (la.take k) * word) (hy : M.getD (o + k) 0 = y) (hd : la.getD k 0 = d)
    (hx : x + B64 * over' = y + d * word + over) :
    val (seg (M.set (o + k) x) o (k + 1)) + B64 ^ (k + 1) * over' = val (seg L o (k + 1)) + val (la.take (k + 1)) * word := by
  rw [seg_step hT x (by omega), val_snoc, seg_succ L o k (by omega), val_snoc, take_succ_getD la k hk, val_snoc, seg_length M o k (by rw [hT.1]; omega), seg_length L o k (by omega)]
  rw [List.length_take, Nat.min_eq_left (by omega), ← hT.2 (o + k) (by omega), hy, hd]
  exact muladd_step k _ _ _ x _ y d _ word over over' hinv hx rfl rfl

theorem pow_split (k c : Nat) : B64 ^ (k + 1) * c = B64 ^ k * (B64 * c) := by rw [Nat.pow_succ, Nat.mul_assoc]

theorem carry_step {L M : List Nat} {o k c c' x z X : Nat} (hT : Turned L M o k) (hk : o + k < L.length) (hinv : val (seg M o k) + B64 ^ k * c = X) (hx : x + B64 * c' = z + c) :
    val (seg (M.set (o + k) x) o (k + 1)) + B64 ^ (k + 1) * c' = X + B64 ^ k * z := by
  rw [seg_step hT x hk, val_snoc, seg_length M o k (by rw [hT.1]; omega), pow_split]
  have e : B64 ^ k * (x + B64 * c') = B64 ^ k * (z + c) := by rw [hx]
  rw [Nat.mul_add, Nat.mul_add] at e
  omega

theorem borrow_step {L M : List Nat} {o k c c' x y z X Y : Nat} (hT : Turned L M o k) (hk : o + k < L.length) (hinv : val (seg M o k) + X = Y + B64 ^ k * c) (hx : x + (z + c) = y + B64 * c') :
    val (seg (M.set (o + k) x) o (k + 1)) + (X + B64 ^ k * z) = (Y + B64 ^ k * y) + B64 ^ (k + 1) * c' := by
  rw [seg_step hT x hk, val_snoc, seg_length M o k (by rw [hT.1]; omega), pow_split]
  have e : B64 ^ k * (x + (z + c)) = B64 ^ k * (y + B64 * c') := by rw [hx]
  rw [Nat.mul_add, Nat.mul_add, Nat.mul_add] at e
  omega

theorem val_seg_succ (L : List Nat) (o k : Nat) (h : o + k < L.length) : val (seg L o (k + 1)) = val (seg L o k) + B64 ^ k * L.getD (o + k) 0 := by
  rw [seg_succ L o k h, val_snoc, seg_length L o k (by omega)]

theorem val_take_succ (l : List Nat) (k : Nat) (h : k < l.length) : val (l.take (k + 1)) = val (l.take k) + B64 ^ k * l.getD k 0 := by
  rw [take_succ_getD l k h, val_snoc, List.length_take, Nat.min_eq_left (by omega)]

theorem seg_split (L : List Nat) (o j n : Nat) (hj : j ≤ n) : seg L o n = seg L o j ++ seg L (o + j) (n - j) := by
  unfold seg
  rw [← List.drop_drop, ← List.drop_take]
  have e : (L.drop o).take j = ((L.drop o).take n).take j := by rw [List.take_take, Nat.min_eq_left hj]
  rw [e, List.take_append_drop]

theorem val_seg_split (L : List Nat) (o j n : Nat) (hj : j ≤ n) (hn : o + n ≤ L.length) : val (seg L o n) = val (seg L o j) + B64 ^ j * val (seg L (o + j) (n - j)) := by
  rw [seg_split L o j n hj, val_append, seg_length L o j (by omega)]

theorem Turned.mono {L M : List Nat} {o k n : Nat} (h : Turned L M o k) (hk : k ≤ n) : Turned L M o n := ⟨h.1, fun t ht => h.2 t (by omega)⟩

/-- What has not turned behind the k-th word counts as before. -/
theorem Turned.tail {L M : List Nat} {o k n : Nat} (h : Turned L M o k) (_hk : k ≤ n) : seg M (o + k) (n - k) = seg L (o + k) (n - k) :=
  seg_congr _ _ _ _ h.1 (fun t ht _ => h.2 t (by omega))

theorem val_take_all (l : List Nat) : val (l.take l.length) = val l := by rw [List.take_length]

theorem Nrm.tail {x : Nat} {r : List Nat} (h : Nrm (x :: r)) : Nrm r ∧ ¬ (r = [] ∧ x = 0) := by
  unfold Nrm at h ⊢
  simp only [nlen, List.length_cons] at h
  split at h
  · omega
  · rename_i h2
    refine ⟨by omega, ?_⟩
    rintro ⟨rfl, rfl⟩
    exact h2 ⟨rfl, rfl⟩

theorem Nrm.ge {l : List Nat} (h : Nrm l) (h0 : l ≠ []) : B64 ^ (l.length - 1) ≤ val l := by
  induction l with
  | nil => exact absurd rfl h0
  | cons x r ih =>
    obtain ⟨hr, hx⟩ := h.tail
    by_cases hr0 : r = []
    · subst hr0
      have : x ≠ 0 := fun e => hx ⟨rfl, e⟩
      simp [val]; omega
    · have h1 := ih hr hr0
      have h2 : 0 < r.length := List.length_pos_iff.2 hr0
      simp only [val, List.length_cons, Nat.add_sub_cancel]
      have e : B64 ^ r.length = B64 * B64 ^ (r.length - 1) := by rw [← Nat.pow_succ']; congr 1; omega
      rw [e]
      have := Nat.mul_le_mul_left B64 h1
      omega

theorem Nrm.len_lt {a b : List Nat} (hb : Nrm b) (da : Dig a) (h : a.length < b.length) : val a < val b := by
  have h1 := val_lt da
  have h2 := hb.ge (by intro e; subst e; simp at h)
  have h3 : B64 ^ a.length ≤ B64 ^ (b.length - 1) := Nat.pow_le_pow_right B64_pos (by omega)
  omega

/-- Of normal words the longer number is not the lesser. -/
theorem Nrm.len_le {a b : List Nat} (ha : Nrm a) (db : Dig b) (h : val a ≤ val b) : a.length ≤ b.length := by
  by_cases hl : b.length < a.length
  · have := ha.len_lt db hl; omega
  · omega

theorem Nrm.nil : Nrm [] := rfl
theorem val_drop_take (l : List Nat) (n : Nat) (h : n ≤ l.length) : val l = val (l.take n) + B64 ^ n * val (l.drop n) := by
  have e := val_append (l.take n) (l.drop n)
  rw [List.take_append_drop, List.length_take, Nat.min_eq_left h] at e
  exact e

theorem getD_ext (a b : List Nat) (hl : a.length = b.length) (n : Nat) (h : ∀ t, n ≤ t → a.getD t 0 = b.getD t 0) : a.drop n = b.drop n := by
  apply List.ext_getElem?
  intro i
  rw [List.getElem?_drop, List.getElem?_drop]
  have := h (n + i) (by omega)
  rw [List.getD_eq_getElem?_getD, List.getD_eq_getElem?_getD] at this
  by_cases hi : n + i < a.length
  · rw [List.getElem?_eq_getElem hi, List.getElem?_eq_getElem (by omega)] at this ⊢
    simpa using this
  · rw [List.getElem?_eq_none (by omega), List.getElem?_eq_none (by omega)]

/-- The highest word at which two numbers part decides. -/
theorem val_lt_at {a b : List Nat} (hl : a.length = b.length) (da : Dig a) (i : Nat) (hi : i < a.length) (h : ∀ t, i + 1 ≤ t → a.getD t 0 = b.getD t 0) (hlt : a.getD i 0 < b.getD i 0) : val a < val b := by
  rw [val_drop_take a (i + 1) (by omega), val_drop_take b (i + 1) (by omega), getD_ext a b hl (i + 1) h, val_take_succ a i hi, val_take_succ b i (by omega)]
  have h1 := val_lt (da.take i)
  rw [List.length_take, Nat.min_eq_left (by omega)] at h1
  have h2 : B64 ^ i * (a.getD i 0 + 1) ≤ B64 ^ i * b.getD i 0 := Nat.mul_le_mul_left _ hlt
  rw [Nat.mul_add] at h2
  omega

end Go.Proofs.YtfjnlopbmkimiaaGreatDoor
namespace Go.Proofs.YtfjnlopbmkimiaaGreatDoor
open Go.RowKit

/-- 2 divides v just t times. -/
def Tw (v t : Nat) : Prop := ∃ m, v = 2 ^ t * (2 * m + 1)

theorem tw_ctz (x : Nat) (h0 : x ≠ 0) (h : x < B64) : Tw x (Lib.ctz 64 x) ∧ Lib.ctz 64 x < 64 := by
  unfold Lib.ctz
  rw [if_neg h0]
  obtain ⟨m, h1, h2⟩ := Lib.ctzFrom_spec 64 x (by omega) (by rw [B64_eq] at h; omega)
  exact ⟨⟨m, h1⟩, h2⟩

theorem B64_two : B64 = 2 ^ 64 := by rw [B64_eq]

/-- Words whose first k are noughts. -/
theorem tw_words (k x r t : Nat) (h : Tw x t) (ht : t < 64) : Tw (B64 ^ k * (x + B64 * r)) (64 * k + t) := by
  obtain ⟨m, rfl⟩ := h
  obtain ⟨d, hd⟩ : ∃ d, 64 = t + (d + 1) := ⟨63 - t, by omega⟩
  refine ⟨m + 2 ^ d * r, ?_⟩
  rw [B64_two, ← Nat.pow_mul, Nat.pow_add, Nat.mul_assoc]
  congr 1
  have e : (2 : Nat) ^ 64 = 2 ^ t * (2 * 2 ^ d) := by
    conv => lhs; rw [hd]
    rw [Nat.pow_add, Nat.pow_succ, Nat.mul_comm (2 ^ d) 2]
  rw [e, Nat.mul_assoc, ← Nat.mul_add]
  congr 1
  rw [Nat.mul_add, Nat.mul_assoc]
  omega

theorem val_noughts (l : List Nat) (k : Nat) (hk : k < l.length) (h : ∀ t, t < k → l.getD t 0 = 0) : val l = B64 ^ k * (l.getD k 0 + B64 * val (l.drop (k + 1))) := by
  induction k generalizing l with
  | zero =>
    cases l with
    | nil => simp at hk
    | cons x r => simp [val]
  | succ k ih =>
    cases l with
    | nil => simp at hk
    | cons x r =>
      have hx : x = 0 := by have := h 0 (by omega); simpa using this
      have := ih r (by simpa using hk) (fun t ht => by have := h (t + 1) (by omega); simpa using this)
      rw [val, hx, this, Nat.zero_add, Nat.pow_succ, Nat.mul_comm (B64 ^ k) B64, Nat.mul_assoc]
      simp

/-- What 2 divides oftener than t times it doesn't divide. -/
theorem Tw.dvd {v t : Nat} (h : Tw v t) (n : Nat) : v % 2 ^ n = 0 ↔ n ≤ t := by
  obtain ⟨m, rfl⟩ := h
  constructor
  · intro hd
    apply Nat.le_of_not_lt
    intro hlt
    obtain ⟨d, rfl⟩ : ∃ d, n = t + (d + 1) := ⟨n - t - 1, by omega⟩
    rw [Nat.pow_add, Nat.mul_mod_mul_left] at hd
    have hp : 0 < (2 : Nat) ^ t := Nat.pow_pos (by decide)
    have h1 : (2 * m + 1) % 2 ^ (d + 1) = 0 := by
      rcases Nat.mul_eq_zero.1 hd with h | h
      · omega
      · exact h
    rw [Nat.pow_succ, Nat.mul_comm (2 ^ d) 2] at h1
    have h2 : (2 * m + 1) % 2 = 0 := by
      have h3 := Nat.mod_mul_right_mod (2 * m + 1) 2 (2 ^ d)
      rw [h1] at h3; omega
    omega
  · intro hle
    obtain ⟨d, rfl⟩ : ∃ d, t = n + d := ⟨t - n, by omega⟩
    rw [Nat.pow_add, Nat.mul_assoc]
    exact Nat.mul_mod_right _ _

end Go.Proofs.YtfjnlopbmkimiaaGreatDoor
namespace Go.Proofs.YtfjnlopbmkimiaaGreatDoor
open Go.RowKit

/-- The words l lie at ao. -/
def Seg (w : World) (ao : Option Addr) (l : List Nat) : Prop :=
  (ao = none ∧ l = []) ∨ ∃ b o, ao = some ⟨b, o, none⟩ ∧ b < w.heap.size ∧ ∀ t, t < l.length → w.cell? ⟨b, o + t, none⟩ = some (.int .u64 (l.getD t 0 : Nat))

/-- Nothing that was there has turned. -/
abbrev Ext (w w' : World) : Prop := Below w.heap.size w w'

theorem Ext.refl (w : World) : Ext w w := Below.refl _ _
theorem Ext.trans {a b c : World} (h : Ext a b) (k : Ext b c) : Ext a c := Below.trans h (Below.mono k h.size)

theorem Seg.ext {w w' : World} {ao : Option Addr} {l : List Nat} (h : Seg w ao l) (k : Ext w w') : Seg w' ao l := by
  rcases h with h | ⟨b, o, rfl, hb, hc⟩
  · exact Or.inl h
  · exact Or.inr ⟨b, o, rfl, Nat.lt_of_lt_of_le hb k.size, fun t ht => (k.cell (p := ⟨b, o + t, none⟩) hb).trans (hc t ht)⟩

theorem Seg.take {w : World} {ao : Option Addr} {l : List Nat} (h : Seg w ao l) (n : Nat) : Seg w ao (l.take n) := by
  rcases h with ⟨rfl, rfl⟩ | ⟨b, o, rfl, hb, hc⟩
  · exact Or.inl ⟨rfl, by simp⟩
  · refine Or.inr ⟨b, o, rfl, hb, fun t ht => ?_⟩
    rw [List.length_take] at ht
    rw [hc t (by omega)]
    simp only [List.getD_eq_getElem?_getD, List.getElem?_take]
    rw [if_pos (by omega)]

/-- Block b is a block of words, L, that may be written. -/
def Row (w : World) (b : Nat) (L : List Nat) : Prop :=
  ∃ e, w.heap[b]? = some (.cells (L.map fun x => Value.int .u64 (x : Nat)).toArray e (0, 0))

/-- Only block b has turned. -/
structure Only (b : Nat) (w w' : World) : Prop where
  os : w'.os = w.os
  tape : w'.tape = w.tape
  output : w'.output = w.output
  size : w'.heap.size = w.heap.size
  block : ∀ k, k ≠ b → w'.heap[k]? = w.heap[k]?

theorem Only.refl (b : Nat) (w : World) : Only b w w := ⟨rfl, rfl, rfl, rfl, fun _ _ => rfl⟩
theorem Only.trans {b : Nat} {a c d : World} (h : Only b a c) (k : Only b c d) : Only b a d :=
  ⟨k.os.trans h.os, k.tape.trans h.tape, k.output.trans h.output, k.size.trans h.size, fun i hi => (k.block i hi).trans (h.block i hi)⟩
theorem Only.below {b N : Nat} {a c : World} (h : Only b a c) (hb : N ≤ b) : Below N a c :=
  ⟨h.os, h.tape, h.output, by rw [h.size]; exact Nat.le_refl _, fun k hk => h.block k (by omega)⟩
theorem Only.setCell {b : Nat} {a w : World} (h : Only b a w) (o : Nat) (u : Value) : Only b a (w.setCell ⟨b, o, none⟩ u) :=
  h.trans ⟨rfl, rfl, rfl, by simp [World.setCell], fun k hk => Below.heap_setCell _ _ _ _ hk⟩

theorem Seg.only {w w' : World} {ao : Option Addr} {l : List Nat} {b : Nat} (h : Seg w ao l) (k : Only b w w') (hb : ∀ a, ao = some a → a.block ≠ b) : Seg w' ao l := by
  rcases h with h | ⟨g, o, rfl, hg, hc⟩
  · exact Or.inl h
  · exact Or.inr ⟨g, o, rfl, by rw [k.size]; exact hg, fun t ht => (World.cell?_of_block (a := ⟨g, o + t, none⟩) (k.block g (hb _ rfl))).trans (hc t ht)⟩

theorem Row.lt {w : World} {b : Nat} {L : List Nat} (h : Row w b L) : b < w.heap.size := by
  obtain ⟨e, h⟩ := h
  exact (Array.getElem?_eq_some_iff.1 h).1

theorem Row.cell {w : World} {b : Nat} {L : List Nat} (h : Row w b L) (j : Nat) (hj : j < L.length) : w.cell? ⟨b, j, none⟩ = some (.int .u64 (L.getD j 0 : Nat)) := by
  obtain ⟨e, h⟩ := h
  rw [cell_of_row w b j _ e (0, 0) h]
  simp [hj, List.getD_eq_getElem?_getD]

theorem Row.frozen {w : World} {b : Nat} {L : List Nat} (h : Row w b L) (j : Nat) : w.frozen? ⟨b, j, none⟩ = false := by
  obtain ⟨e, h⟩ := h
  exact frozen_of_row w b j _ e h

theorem Row.set {w : World} {b : Nat} {L : List Nat} (h : Row w b L) (j x : Nat) : Row (w.setCell ⟨b, j, none⟩ (.int .u64 (x : Nat))) b (L.set j x) := by
  obtain ⟨e, h⟩ := h
  refine ⟨e, ?_⟩
  rw [heap_setCell_same w b j _ e _ h]
  congr 2
  apply Array.toList_inj.1
  simp [List.map_set]

theorem Row.ext {w w' : World} {b : Nat} {L : List Nat} (h : Row w b L) (k : Ext w w') : Row w' b L := by
  have hb := h.lt
  obtain ⟨e, h⟩ := h
  exact ⟨e, (k.block b hb).trans h⟩

theorem Row.only {w w' : World} {b g : Nat} {L : List Nat} (h : Row w b L) (k : Only g w w') (hg : b ≠ g) : Row w' b L := by
  obtain ⟨e, h⟩ := h
  exact ⟨e, (k.block b hg).trans h⟩

/-- What lies in a row can be read as a slice. -/
theorem Row.seg {w : World} {b : Nat} {L : List Nat} (h : Row w b L) (o n : Nat) (hn : o + n ≤ L.length) : Seg w (some ⟨b, o, none⟩) ((L.drop o).take n) := by
  refine Or.inr ⟨b, o, rfl, h.lt, fun t ht => ?_⟩
  rw [List.length_take, List.length_drop] at ht
  rw [h.cell (o + t) (by omega)]
  simp only [List.getD_eq_getElem?_getD, List.getElem?_take, List.getElem?_drop]
  rw [if_pos (by omega)]

end Go.Proofs.YtfjnlopbmkimiaaGreatDoor
