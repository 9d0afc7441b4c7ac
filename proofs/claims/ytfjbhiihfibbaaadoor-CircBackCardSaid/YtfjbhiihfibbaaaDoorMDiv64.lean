/-
  math/bits.Div64 and LeadingZeros64: what they answer.
-/
import Derived.Test.YtfjbhiihfibbaaaDoorMShift
import Derived.Lib.BitFns
import Derived.Deep.Cut

namespace Go.Proofs.YtfjbhiihfibbaaaDoor
open Go.RowKit

theorem bitLen_log (x : Nat) (h0 : 0 < x) (h : x < 2 ^ 64) : Lib.bitLen x = Nat.log2 x + 1 := by
  have h1 : 2 ^ Nat.log2 x ≤ x := Nat.log2_self_le (by omega)
  have h2 : x < 2 ^ (Nat.log2 x + 1) := Nat.lt_log2_self
  rw [Lib.bitLen_shift (Nat.log2 x) x h1 h]
  have e : x / 2 ^ Nat.log2 x = 1 := by
    rw [Nat.pow_succ] at h2
    have hp : 0 < 2 ^ Nat.log2 x := Nat.pow_pos (by omega)
    have h3 : 1 ≤ x / 2 ^ Nat.log2 x := (Nat.le_div_iff_mul_le hp).2 (by omega)
    have h4 : x / 2 ^ Nat.log2 x < 2 := (Nat.div_lt_iff_lt_mul hp).2 (by omega)
    omega
  rw [e]
  rfl

/-- A digit of a quotient, guessed by the divisor's upper half: what holds while the guess is lowered. -/
structure Guess (b u u1 v1 v0 q r : Nat) : Prop where
  sum : q * v1 + r = u
  ge : (u * b + u1) / (v1 * b + v0) ≤ q

theorem guess_cmp {b u u1 v1 v0 q r : Nat} (h : q * v1 + r = u) : q * (v1 * b + v0) ≤ u * b + u1 ↔ q * v0 ≤ b * r + u1 := by
  subst h
  have e1 : q * (v1 * b + v0) = q * v1 * b + q * v0 := by rw [Nat.mul_add, Nat.mul_assoc]
  have e2 : (q * v1 + r) * b = q * v1 * b + b * r := by rw [Nat.add_mul, Nat.mul_comm r]
  rw [e1, e2]
  omega

theorem Guess.start {b u u1 v1 v0 : Nat} (hb : u1 < b) (hv1 : 0 < v1) : Guess b u u1 v1 v0 (u / v1) (u - u / v1 * v1) := by
  have h1 : u / v1 * v1 ≤ u := Nat.div_mul_le_self _ _
  refine ⟨by omega, ?_⟩
  have hv : 0 < v1 * b + v0 := by
    have : 0 < v1 * b := Nat.mul_pos hv1 (by omega)
    omega
  apply Nat.le_of_lt_succ
  rw [Nat.div_lt_iff_lt_mul hv]
  have h2 : u < (u / v1 + 1) * v1 := by
    have := Nat.div_add_mod u v1
    have := Nat.mod_lt u hv1
    rw [Nat.add_mul, Nat.one_mul, Nat.mul_comm (u / v1)]
    omega
  have h3 : (u + 1) * b ≤ (u / v1 + 1) * v1 * b := Nat.mul_le_mul_right _ h2
  rw [Nat.succ_eq_add_one, Nat.mul_add, ← Nat.mul_assoc]
  rw [Nat.add_mul, Nat.one_mul] at h3
  omega

/-- The guess is too great: it is lowered. -/
theorem Guess.down {b u u1 v1 v0 q r : Nat} (g : Guess b u u1 v1 v0 q r) (hu : u < v1 * b + v0) (hu1 : u1 < b) (hbig : b ≤ q ∨ b * r + u1 < q * v0) :
    0 < q ∧ Guess b u u1 v1 v0 (q - 1) (r + v1) := by
  have hv : 0 < v1 * b + v0 := by omega
  have hlt : (u * b + u1) / (v1 * b + v0) < q := by
    rw [Nat.div_lt_iff_lt_mul hv]
    rcases hbig with h | h
    · have h1 : b * (v1 * b + v0) ≤ q * (v1 * b + v0) := Nat.mul_le_mul_right _ h
      have h2 : b * (u + 1) ≤ b * (v1 * b + v0) := Nat.mul_le_mul_left _ hu
      rw [Nat.mul_add, Nat.mul_one, Nat.mul_comm b u] at h2
      omega
    · apply Nat.lt_of_not_le
      intro h1
      have := (guess_cmp (b := b) (u1 := u1) (v0 := v0) g.sum).1 h1
      omega
  have hq0 : 0 < q := Nat.lt_of_le_of_lt (Nat.zero_le _) hlt
  refine ⟨hq0, ?_, Nat.le_sub_one_of_lt hlt⟩
  have h1 := g.sum
  obtain ⟨k, rfl⟩ : ∃ k, q = k + 1 := ⟨q - 1, by omega⟩
  rw [Nat.add_sub_cancel]
  rw [Nat.add_mul, Nat.one_mul] at h1
  omega

/-- The guess is right. -/
theorem Guess.done {b u u1 v1 v0 q r : Nat} (g : Guess b u u1 v1 v0 q r) (hv : 0 < v1 * b + v0) (hsm : q * v0 ≤ b * r + u1) : q = (u * b + u1) / (v1 * b + v0) := by
  have h1 := (guess_cmp (b := b) (u1 := u1) (v0 := v0) g.sum).2 hsm
  have h2 := (Nat.le_div_iff_mul_le hv).2 h1
  exact Nat.le_antisymm h2 g.ge

theorem hid {p : Prop} (h : p) : Hid p := h

theorem castPow (s : Nat) : ((2 : Int) ^ s) = ((2 ^ s : Nat) : Int) := by simp [Int.natCast_pow]

/-- The halves of a word, as the walk spells them. -/
theorem halves (Y : Nat) (hY : Y < B64) : ∃ a c : Nat, a < 4294967296 ∧ c < 4294967296 ∧ Hid (a * 4294967296 + c = Y) ∧ (Y : Int) / 4294967296 = (a : Int) ∧ bits .and .u64 (Y : Int) 4294967295 = (c : Int) := by
  rw [B64_eq] at hY
  have e := bits_and_u64_nat Y 4294967295 hY (by omega)
  have e2 : Y &&& 4294967295 = Y % 4294967296 := Nat.and_two_pow_sub_one_eq_mod Y 32
  rw [e2] at e
  refine ⟨Y / 4294967296, Y % 4294967296, by omega, by omega, ?_, by omega, e⟩
  show _ = _
  omega

/-- Dividend and divisor, shifted till the divisor's highest bit is set: as the walk spells them. -/
theorem div64_norm (hi lo y s : Nat) (hlt : hi < y) (hlo : lo < B64) (hs : s ≤ 63) (hys : y * 2 ^ s < B64) : ∃ Y H l1 U T : Nat, Y < B64 ∧ U < Y ∧ T < B64 ∧ Hid (Y = y * 2 ^ s) ∧ Hid (U * B64 + T = (hi * B64 + lo) * 2 ^ s) ∧
    IntKind.u64.wrap ((y : Int) * 2 ^ s) = (Y : Int) ∧ IntKind.u64.wrap ((hi : Int) * 2 ^ s) = (H : Int) ∧ (lo : Int) / 2 ^ (64 - s) = (l1 : Int) ∧ bits .or .u64 (H : Int) (l1 : Int) = (U : Int) ∧ IntKind.u64.wrap ((lo : Int) * 2 ^ s) = (T : Int) := by
  have hsplit : B64 = 2 ^ s * 2 ^ (64 - s) := by rw [← Nat.pow_add, B64_pow]; congr 1; omega
  have hp : 0 < 2 ^ s := Nat.pow_pos (by omega)
  have hp2 : 0 < 2 ^ (64 - s) := Nat.pow_pos (by omega)
  have hq : lo * 2 ^ s / B64 = lo / 2 ^ (64 - s) := by rw [hsplit, Nat.mul_comm lo, Nat.mul_div_mul_left _ _ hp]
  have hl1 : lo / 2 ^ (64 - s) < 2 ^ s := by rw [Nat.div_lt_iff_lt_mul hp2, ← hsplit]; exact hlo
  have hH : (hi + 1) * 2 ^ s ≤ y * 2 ^ s := Nat.mul_le_mul_right _ hlt
  rw [Nat.add_mul, Nat.one_mul] at hH
  have hdm := Nat.div_add_mod (lo * 2 ^ s) B64
  have hmB : lo * 2 ^ s % B64 < B64 := Nat.mod_lt _ B64_pos
  have wr : ∀ x : Nat, IntKind.u64.wrap ((x : Int) * 2 ^ s) = ((x * 2 ^ s % B64 : Nat) : Int) := by
    intro x
    rw [IntKind.wrap_u64, castPow, ← Int.natCast_mul, B64_eq]
    omega
  refine ⟨y * 2 ^ s, hi * 2 ^ s, lo / 2 ^ (64 - s), hi * 2 ^ s + lo / 2 ^ (64 - s), lo * 2 ^ s % B64, hys, by omega, hmB, rfl, ?_, ?_, ?_, ?_, ?_, ?_⟩
  · show _ = _
    rw [← hq, Nat.add_mul, Nat.add_mul, Nat.mul_right_comm hi B64]
    rw [Nat.mul_comm B64] at hdm
    omega
  · rw [wr, Nat.mod_eq_of_lt hys]
  · rw [wr, Nat.mod_eq_of_lt (by omega)]
  · rw [castPow]; exact (Int.natCast_ediv _ _).symm
  · rw [bits_or_u64_nat _ _ (by rw [B64_eq] at hys; omega) (by rw [B64_eq] at hys; omega)]
    congr 1
    rw [Nat.mul_comm hi, ← Nat.two_pow_add_eq_or_of_lt hl1]
  · rw [wr]

/-- What a digit of the quotient leaves, as the walk spells it. -/
theorem rem_ex (U u1 Q Y : Nat) (hY0 : 0 < Y) (hY : Y < B64) (hQ : Q = (U * 4294967296 + u1) / Y) : ∃ A C N : Nat, A ≤ 18446744069414584320 ∧ N < Y ∧ Hid (U * 4294967296 + u1 = Q * Y + N) ∧
    IntKind.u64.wrap ((U : Int) * 4294967296) = (A : Int) ∧ IntKind.u64.wrap ((Q : Int) * (Y : Int)) = (C : Int) ∧ IntKind.u64.wrap ((A : Int) + (u1 : Int) - (C : Int)) = (N : Int) := by
  have h1 := Nat.div_add_mod (U * 4294967296 + u1) Y
  have h2 := Nat.mod_lt (U * 4294967296 + u1) hY0
  rw [← hQ, Nat.mul_comm] at h1
  rw [B64_eq] at hY
  generalize (U * 4294967296 + u1) % Y = N at *
  refine ⟨U * 4294967296 % 18446744073709551616, Q * Y % 18446744073709551616, N, by omega, h2, h1.symm, ?_, ?_, ?_⟩
  · rw [IntKind.wrap_u64]; omega
  · rw [IntKind.wrap_u64, ← Int.natCast_mul]; omega
  · rw [IntKind.wrap_u64]
    generalize Q * Y = QY at *
    omega

/-- The first guess, as the walk spells it. -/
theorem guess_ex (U u1 v1 v0 : Nat) (hu1 : u1 < 4294967296) (hv0 : v0 < 4294967296) (hv1 : v1 < 4294967296) (hv1b : 2147483648 ≤ v1) (hU : U < v1 * 4294967296 + v0) : ∃ q m : Nat, m ≤ U ∧ U < m + v1 ∧ q ≤ 4294967297 ∧ Hid (Guess 4294967296 U u1 v1 v0 q (U - m)) ∧
    (U : Int) / (v1 : Int) = (q : Int) ∧ (q : Int) * (v1 : Int) = (m : Int) := by
  have hgs := Guess.start (b := 4294967296) (u := U) (u1 := u1) (v1 := v1) (v0 := v0) hu1 (by omega)
  refine ⟨U / v1, U / v1 * v1, Nat.div_mul_le_self _ _, ?_, ?_, hgs, (Int.natCast_ediv _ _).symm, (Int.natCast_mul _ _).symm⟩
  · have := Nat.div_add_mod U v1
    have := Nat.mod_lt U (show 0 < v1 by omega)
    rw [Nat.mul_comm]
    omega
  · apply Nat.le_of_lt_succ
    rw [Nat.div_lt_iff_lt_mul (by omega)]
    omega

/-- The guess after one lowering, where it is left: right. -/
theorem guess_break {u u1 v1 v0 q r : Nat} (g : Guess 4294967296 u u1 v1 v0 (q - 1) (r + v1)) (hv1 : 0 < v1) (hv0 : v0 < 4294967296) (hq : q ≤ 4294967297) (hr : 4294967296 ≤ r + v1) : q - 1 = (u * 4294967296 + u1) / (v1 * 4294967296 + v0) := by
  refine g.done (by omega) ?_
  have h1 : (q - 1) * v0 ≤ 4294967296 * 4294967295 := Nat.mul_le_mul (by omega) (by omega)
  omega

theorem div_name (R s : Nat) : ∃ rr : Nat, (R : Int) / 2 ^ s = (rr : Int) ∧ Hid (rr = R / 2 ^ s) := ⟨R / 2 ^ s, by rw [castPow]; exact (Int.natCast_ediv _ _).symm, rfl⟩

theorem div64_ret {Q P rr R s hi lo y : Nat} {w : World} (h1 : rr = R / 2 ^ s) (h2 : Q * 4294967296 + P < B64) (h3 : R / 2 ^ s < y ∧ hi * B64 + lo = (Q * 4294967296 + P) * y + R / 2 ^ s) :
    ∃ q r : Nat, Ending.returned (.tuple #[.int .u64 ((Q : Int) * 4294967296 + (P : Int)), .int .u64 (rr : Int)]) = .returned (.tuple #[.int .u64 q, .int .u64 r]) ∧ w = w ∧ q < B64 ∧ r < y ∧ hi * B64 + lo = q * y + r := by
  subst h1
  exact ⟨Q * 4294967296 + P, R / 2 ^ s, by congr 3, rfl, h2, h3.1, h3.2⟩

theorem div64_lin' {b U u1 u0 QY N PY R : Nat} (h1 : U * b + u1 = QY + N) (h2 : N * b + u0 = PY + R) : U * (b * b) + (u1 * b + u0) = QY * b + PY + R := by
  have h3 : (U * b + u1) * b = (QY + N) * b := by rw [h1]
  rw [Nat.add_mul, Nat.add_mul, Nat.mul_assoc] at h3
  omega
theorem div64_lin {U u1 u0 QY N PY R : Nat} (h1 : U * 4294967296 + u1 = QY + N) (h2 : N * 4294967296 + u0 = PY + R) : U * 18446744073709551616 + (u1 * 4294967296 + u0) = QY * 4294967296 + PY + R := div64_lin' h1 h2

theorem div64_end {hi lo y s Y U T u1 u0 Q N P R : Nat} (hY : Y = y * 2 ^ s) (hU : U * B64 + T = (hi * B64 + lo) * 2 ^ s) (hT : u1 * 4294967296 + u0 = T)
    (h1 : U * 4294967296 + u1 = Q * Y + N) (h2 : N * 4294967296 + u0 = P * Y + R) (hR : R < Y) :
    R / 2 ^ s < y ∧ hi * B64 + lo = (Q * 4294967296 + P) * y + R / 2 ^ s := by
  have hp : 0 < 2 ^ s := Nat.pow_pos (by omega)
  have e : (hi * B64 + lo) * 2 ^ s = (Q * 4294967296 + P) * y * 2 ^ s + R := by
    rw [← hU, ← hT, Nat.mul_assoc, ← hY, Nat.add_mul, Nat.mul_right_comm Q, B64_eq]
    exact div64_lin h1 h2
  constructor
  · rw [Nat.div_lt_iff_lt_mul hp, ← hY]; exact hR
  · have h3 : (hi * B64 + lo) * 2 ^ s / 2 ^ s = ((Q * 4294967296 + P) * y * 2 ^ s + R) / 2 ^ s := by rw [e]
    rw [Nat.mul_div_cancel _ hp, Nat.mul_comm ((Q * 4294967296 + P) * y) (2 ^ s), Nat.mul_add_div hp] at h3
    rw [h3]

end Go.Proofs.YtfjbhiihfibbaaaDoor
