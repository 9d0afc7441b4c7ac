/-
  math/bits.Div64 and LeadingZeros64: what they answer.
-/
import Derived.Test.YtdiojbgbeeojkaaGreatDoorMShift
import Derived.Lib.BitFns
import Derived.Deep.Cut

namespace Go.Proofs.YtdiojbgbeeojkaaGreatDoor
open Go.RowKit

theorem bitLen_log (x : Nat) (h0 : 0 < x) (h : x < 2 ^ 64) : Lib.bitLen x = Nat.log2 x + 1 := by
  have h1 : 2 ^ Nat.log2 x ≤ x := Nat.log2_self_le (by omega)
  have h2 : x < 2 ^ (Nat.log2 x + 1) := Nat.lt_log2_self
  rw [Lib.bitLen_shift (Nat.log2 x) x h1 h]
  have e : x / 2 ^ Nat.log2 x = 1 := by
    rw [Nat.pow_succ] at h2
    have hp : 0 < 2 ^ Nat.log2 x := Nat.pow_pos (by omega)
    have h3 : 1 ≤ x / 2 ^ Nat.log2 x := (Nat.le_div_iff_mul_le hp).2 (by omega)
    have h4 : x / 2 ^ Nat.log2 x < 2 := (Nat.div_lt_iff_lt_mul hp).2 (by omega)
    omega
  rw [e]
  rfl

/-- How far a word is shifted till its highest bit is set. -/
theorem lz_any (y : Nat) (h0 : 0 < y) (hy : y < B64) : ∃ s : Nat, s ≤ 63 ∧ 9223372036854775808 ≤ y * 2 ^ s ∧ y * 2 ^ s < B64 ∧
    ∀ w : World, Calls Tryz.prog 113 #[.int .u64 y] w fun e w' => e = .returned (.int .i64 s) ∧ w = w' := by
  have h1 : 2 ^ Nat.log2 y ≤ y := Nat.log2_self_le (by omega)
  have h2 : y < 2 ^ (Nat.log2 y + 1) := Nat.lt_log2_self
  have h3 : Nat.log2 y < 64 := by
    apply Nat.lt_of_not_le
    intro h
    have : (2 : Nat) ^ 64 ≤ 2 ^ Nat.log2 y := Nat.pow_le_pow_right (by omega) h
    rw [B64_pow] at hy
    omega
  refine ⟨63 - Nat.log2 y, by omega, ?_, ?_, fun w => ?_⟩
  · have : 2 ^ Nat.log2 y * 2 ^ (63 - Nat.log2 y) ≤ y * 2 ^ (63 - Nat.log2 y) := Nat.mul_le_mul_right _ h1
    rw [← Nat.pow_add, show Nat.log2 y + (63 - Nat.log2 y) = 63 from by omega] at this
    exact this
  · have : y * 2 ^ (63 - Nat.log2 y) < 2 ^ (Nat.log2 y + 1) * 2 ^ (63 - Nat.log2 y) := Nat.mul_lt_mul_of_pos_right h2 (Nat.pow_pos (by omega))
    rw [← Nat.pow_add, show Nat.log2 y + 1 + (63 - Nat.log2 y) = 64 from by omega] at this
    exact this
  · refine (Tryz.bits_LeadingZeros64 (y : Int) w (by omega) (by rw [B64_eq] at hy; omega)).mono ?_
    rintro e w' ⟨rfl, rfl⟩
    refine ⟨?_, rfl⟩
    rw [Int.toNat_natCast, bitLen_log y h0 hy]
    congr 2
    omega

/-- A digit of a quotient, guessed by the divisor's upper half: what holds while the guess is lowered. -/
structure Guess (b u u1 v1 v0 q r : Nat) : Prop where
  sum : q * v1 + r = u
  ge : (u * b + u1) / (v1 * b + v0) ≤ q

theorem guess_cmp {b u u1 v1 v0 q r : Nat} (h : q * v1 + r = u) : q * (v1 * b + v0) ≤ u * b + u1 ↔ q * v0 ≤ b * r + u1 := by
  subst h
  have e1 : q * (v1 * b + v0) = q * v1 * b + q * v0 := by rw [Nat.mul_add, Nat.mul_assoc]
  have e2 : (q * v1 + r) * b = q * v1 * b + b * r := by rw [Nat.add_mul, Nat.mul_comm r]
  rw [e1, e2]
  omega

theorem Guess.start {b u u1 v1 v0 : Nat} (hb : u1 < b) (hv1 : 0 < v1) : Guess b u u1 v1 v0 (u / v1) (u - u / v1 * v1) := by
  have h1 : u / v1 * v1 ≤ u := Nat.div_mul_le_self _ _
  refine ⟨by omega, ?_⟩
  have hv : 0 < v1 * b + v0 := by
    have : 0 < v1 * b := Nat.mul_pos hv1 (by omega)
    omega
  apply Nat.le_of_lt_succ
  rw [Nat.div_lt_iff_lt_mul hv]
  have h2 : u < (u / v1 + 1) * v1 := by
    have := Nat.div_add_mod u v1
    have := Nat.mod_lt u hv1
    rw [Nat.add_mul, Nat.one_mul, Nat.mul_comm (u / v1)]
    omega
  have h3 : (u + 1) * b ≤ (u / v1 + 1) * v1 * b := Nat.mul_le_mul_right _ h2
  rw [Nat.succ_eq_add_one, Nat.mul_add, ← Nat.mul_assoc]
  rw [Nat.add_mul, Nat.one_mul] at h3
  omega

/-- The guess is too great: it is lowered. -/
theorem Guess.down {b u u1 v1 v0 q r : Nat} (g : Guess b u u1 v1 v0 q r) (hu : u < v1 * b + v0) (hu1 : u1 < b) (hbig : b ≤ q ∨ b * r + u1 < q * v0) :
    0 < q ∧ Guess b u u1 v1 v0 (q - 1) (r + v1) := by
  have hv : 0 < v1 * b + v0 := by omega
  have hlt : (u * b + u1) / (v1 * b + v0) < q := by
    rw [Nat.div_lt_iff_lt_mul hv]
    rcases hbig with h | h
    · have h1 : b * (v1 * b + v0) ≤ q * (v1 * b + v0) := Nat.mul_le_mul_right _ h
      have h2 : b * (u + 1) ≤ b * (v1 * b + v0) := Nat.mul_le_mul_left _ hu
      rw [Nat.mul_add, Nat.mul_one, Nat.mul_comm b u] at h2
      omega
    · apply Nat.lt_of_not_le
      intro h1
      have := (guess_cmp (b := b) (u1 := u1) (v0 := v0) g.sum).1 h1
      omega
  have hq0 : 0 < q := Nat.lt_of_le_of_lt (Nat.zero_le _) hlt
  refine ⟨hq0, ?_, Nat.le_sub_one_of_lt hlt⟩
  have h1 := g.sum
  obtain ⟨k, rfl⟩ : ∃ k, q = k + 1 := ⟨q - 1, by omega⟩
  rw [Nat.add_sub_cancel]
  rw [Nat.add_mul, Nat.one_mul] at h1
  omega

/-- The guess is right. -/
theorem Guess.done {b u u1 v1 v0 q r : Nat} (g : Guess b u u1 v1 v0 q r) (hv : 0 < v1 * b + v0) (hsm : q * v0 ≤ b * r + u1) : q = (u * b + u1) / (v1 * b + v0) := by
  have h1 := (guess_cmp (b := b) (u1 := u1) (v0 := v0) g.sum).2 hsm
  have h2 := (Nat.le_div_iff_mul_le hv).2 h1
  exact Nat.le_antisymm h2 g.ge

theorem hid {p : Prop} (h : p) : Hid p := h

theorem castPow (s : Nat) : ((2 : Int) ^ s) = ((2 ^ s : Nat) : Int) := by simp [Int.natCast_pow]

/-- The halves of a word, as the walk spells them. -/
theorem halves (Y : Nat) (hY : Y < B64) : ∃ a c : Nat, a < 4294967296 ∧ c < 4294967296 ∧ Hid (a * 4294967296 + c = Y) ∧ (Y : Int) / 4294967296 = (a : Int) ∧ bits .and .u64 (Y : Int) 4294967295 = (c : Int) := by
  rw [B64_eq] at hY
  have e := bits_and_u64_nat Y 4294967295 hY (by omega)
  have e2 : Y &&& 4294967295 = Y % 4294967296 := Nat.and_two_pow_sub_one_eq_mod Y 32
  rw [e2] at e
  refine ⟨Y / 4294967296, Y % 4294967296, by omega, by omega, ?_, by omega, e⟩
  show _ = _
  omega

/-- Dividend and divisor, shifted till the divisor's highest bit is set: as the walk spells them. -/
theorem div64_norm (hi lo y s : Nat) (hlt : hi < y) (hlo : lo < B64) (hs : s ≤ 63) (hys : y * 2 ^ s < B64) : ∃ Y H l1 U T : Nat, Y < B64 ∧ U < Y ∧ T < B64 ∧ Hid (Y = y * 2 ^ s) ∧ Hid (U * B64 + T = (hi * B64 + lo) * 2 ^ s) ∧
    IntKind.u64.wrap ((y : Int) * 2 ^ s) = (Y : Int) ∧ IntKind.u64.wrap ((hi : Int) * 2 ^ s) = (H : Int) ∧ (lo : Int) / 2 ^ (64 - s) = (l1 : Int) ∧ bits .or .u64 (H : Int) (l1 : Int) = (U : Int) ∧ IntKind.u64.wrap ((lo : Int) * 2 ^ s) = (T : Int) := by
  have hsplit : B64 = 2 ^ s * 2 ^ (64 - s) := by rw [← Nat.pow_add, B64_pow]; congr 1; omega
  have hp : 0 < 2 ^ s := Nat.pow_pos (by omega)
  have hp2 : 0 < 2 ^ (64 - s) := Nat.pow_pos (by omega)
  have hq : lo * 2 ^ s / B64 = lo / 2 ^ (64 - s) := by rw [hsplit, Nat.mul_comm lo, Nat.mul_div_mul_left _ _ hp]
  have hl1 : lo / 2 ^ (64 - s) < 2 ^ s := by rw [Nat.div_lt_iff_lt_mul hp2, ← hsplit]; exact hlo
  have hH : (hi + 1) * 2 ^ s ≤ y * 2 ^ s := Nat.mul_le_mul_right _ hlt
  rw [Nat.add_mul, Nat.one_mul] at hH
  have hdm := Nat.div_add_mod (lo * 2 ^ s) B64
  have hmB : lo * 2 ^ s % B64 < B64 := Nat.mod_lt _ B64_pos
  have wr : ∀ x : Nat, IntKind.u64.wrap ((x : Int) * 2 ^ s) = ((x * 2 ^ s % B64 : Nat) : Int) := by
    intro x
    rw [IntKind.wrap_u64, castPow, ← Int.natCast_mul, B64_eq]
    omega
  refine ⟨y * 2 ^ s, hi * 2 ^ s, lo / 2 ^ (64 - s), hi * 2 ^ s + lo / 2 ^ (64 - s), lo * 2 ^ s % B64, hys, by omega, hmB, rfl, ?_, ?_, ?_, ?_, ?_, ?_⟩
  · show _ = _
    rw [← hq, Nat.add_mul, Nat.add_mul, Nat.mul_right_comm hi B64]
    rw [Nat.mul_comm B64] at hdm
    omega
  · rw [wr, Nat.mod_eq_of_lt hys]
  · rw [wr, Nat.mod_eq_of_lt (by omega)]
  · rw [castPow]; exact (Int.natCast_ediv _ _).symm
  · rw [bits_or_u64_nat _ _ (by rw [B64_eq] at hys; omega) (by rw [B64_eq] at hys; omega)]
    congr 1
    rw [Nat.mul_comm hi, ← Nat.two_pow_add_eq_or_of_lt hl1]
  · rw [wr]

/-- What a digit of the quotient leaves, as the walk spells it. -/
theorem rem_ex (U u1 Q Y : Nat) (hY0 : 0 < Y) (hY : Y < B64) (hQ : Q = (U * 4294967296 + u1) / Y) : ∃ A C N : Nat, A ≤ 18446744069414584320 ∧ N < Y ∧ Hid (U * 4294967296 + u1 = Q * Y + N) ∧
    IntKind.u64.wrap ((U : Int) * 4294967296) = (A : Int) ∧ IntKind.u64.wrap ((Q : Int) * (Y : Int)) = (C : Int) ∧ IntKind.u64.wrap ((A : Int) + (u1 : Int) - (C : Int)) = (N : Int) := by
  have h1 := Nat.div_add_mod (U * 4294967296 + u1) Y
  have h2 := Nat.mod_lt (U * 4294967296 + u1) hY0
  rw [← hQ, Nat.mul_comm] at h1
  rw [B64_eq] at hY
  generalize (U * 4294967296 + u1) % Y = N at *
  refine ⟨U * 4294967296 % 18446744073709551616, Q * Y % 18446744073709551616, N, by omega, h2, h1.symm, ?_, ?_, ?_⟩
  · rw [IntKind.wrap_u64]; omega
  · rw [IntKind.wrap_u64, ← Int.natCast_mul]; omega
  · rw [IntKind.wrap_u64]
    generalize Q * Y = QY at *
    omega

/-- The first guess, as the walk spells it. -/
theorem guess_ex (U u1 v1 v0 : Nat) (hu1 : u1 < 4294967296) (hv0 : v0 < 4294967296) (hv1 : v1 < 4294967296) (hv1b : 2147483648 ≤ v1) (hU : U < v1 * 4294967296 + v0) : ∃ q m : Nat, m ≤ U ∧ U < m + v1 ∧ q ≤ 4294967297 ∧ Hid (Guess 4294967296 U u1 v1 v0 q (U - m)) ∧
    (U : Int) / (v1 : Int) = (q : Int) ∧ (q : Int) * (v1 : Int) = (m : Int) := by
  have hgs := Guess.start (b := 4294967296) (u := U) (u1 := u1) (v1 := v1) (v0 := v0) hu1 (by omega)
  refine ⟨U / v1, U / v1 * v1, Nat.div_mul_le_self _ _, ?_, ?_, hgs, (Int.natCast_ediv _ _).symm, (Int.natCast_mul _ _).symm⟩
  · have := Nat.div_add_mod U v1
    have := Nat.mod_lt U (show 0 < v1 by omega)
    rw [Nat.mul_comm]
    omega
  · apply Nat.le_of_lt_succ
    rw [Nat.div_lt_iff_lt_mul (by omega)]
    omega

/-- The guess after one lowering, where it is left: right. -/
theorem guess_break {u u1 v1 v0 q r : Nat} (g : Guess 4294967296 u u1 v1 v0 (q - 1) (r + v1)) (hv1 : 0 < v1) (hv0 : v0 < 4294967296) (hq : q ≤ 4294967297) (hr : 4294967296 ≤ r + v1) : q - 1 = (u * 4294967296 + u1) / (v1 * 4294967296 + v0) := by
  refine g.done (by omega) ?_
  have h1 : (q - 1) * v0 ≤ 4294967296 * 4294967295 := Nat.mul_le_mul (by omega) (by omega)
  omega

theorem div_name (R s : Nat) : ∃ rr : Nat, (R : Int) / 2 ^ s = (rr : Int) ∧ Hid (rr = R / 2 ^ s) := ⟨R / 2 ^ s, by rw [castPow]; exact (Int.natCast_ediv _ _).symm, rfl⟩

theorem div64_ret {Q P rr R s hi lo y : Nat} {w : World} (h1 : rr = R / 2 ^ s) (h2 : Q * 4294967296 + P < B64) (h3 : R / 2 ^ s < y ∧ hi * B64 + lo = (Q * 4294967296 + P) * y + R / 2 ^ s) :
    ∃ q r : Nat, Ending.returned (.tuple #[.int .u64 ((Q : Int) * 4294967296 + (P : Int)), .int .u64 (rr : Int)]) = .returned (.tuple #[.int .u64 q, .int .u64 r]) ∧ w = w ∧ q < B64 ∧ r < y ∧ hi * B64 + lo = q * y + r := by
  subst h1
  exact ⟨Q * 4294967296 + P, R / 2 ^ s, by congr 3, rfl, h2, h3.1, h3.2⟩

theorem div64_lin' {b U u1 u0 QY N PY R : Nat} (h1 : U * b + u1 = QY + N) (h2 : N * b + u0 = PY + R) : U * (b * b) + (u1 * b + u0) = QY * b + PY + R := by
  have h3 : (U * b + u1) * b = (QY + N) * b := by rw [h1]
  rw [Nat.add_mul, Nat.add_mul, Nat.mul_assoc] at h3
  omega
theorem div64_lin {U u1 u0 QY N PY R : Nat} (h1 : U * 4294967296 + u1 = QY + N) (h2 : N * 4294967296 + u0 = PY + R) : U * 18446744073709551616 + (u1 * 4294967296 + u0) = QY * 4294967296 + PY + R := div64_lin' h1 h2

theorem div64_end {hi lo y s Y U T u1 u0 Q N P R : Nat} (hY : Y = y * 2 ^ s) (hU : U * B64 + T = (hi * B64 + lo) * 2 ^ s) (hT : u1 * 4294967296 + u0 = T)
    (h1 : U * 4294967296 + u1 = Q * Y + N) (h2 : N * 4294967296 + u0 = P * Y + R) (hR : R < Y) :
    R / 2 ^ s < y ∧ hi * B64 + lo = (Q * 4294967296 + P) * y + R / 2 ^ s := by
  have hp : 0 < 2 ^ s := Nat.pow_pos (by omega)
  have e : (hi * B64 + lo) * 2 ^ s = (Q * 4294967296 + P) * y * 2 ^ s + R := by
    rw [← hU, ← hT, Nat.mul_assoc, ← hY, Nat.add_mul, Nat.mul_right_comm Q, B64_eq]
    exact div64_lin h1 h2
  constructor
  · rw [Nat.div_lt_iff_lt_mul hp, ← hY]; exact hR
  · have h3 : (hi * B64 + lo) * 2 ^ s / 2 ^ s = ((Q * 4294967296 + P) * y * 2 ^ s + R) / 2 ^ s := by rw [e]
    rw [Nat.mul_div_cancel _ hp, Nat.mul_comm ((Q * 4294967296 + P) * y) (2 ^ s), Nat.mul_add_div hp] at h3
    rw [h3]

set_option maxHeartbeats 1000000 in
set_option maxRecDepth 100000 in
theorem div64_long (hi lo y : Nat) (hlo : lo < B64) (hy : y < B64) (hlt : hi < y) (h0 : 0 < hi) (w : World) :
    Calls Tryz.prog 112 #[.int .u64 hi, .int .u64 lo, .int .u64 y] w fun e w' => ∃ q r : Nat, e = .returned (.tuple #[.int .u64 q, .int .u64 r]) ∧ w = w' ∧ q < B64 ∧ r < y ∧ hi * B64 + lo = q * y + r := by
  obtain ⟨s, hs, hys1, hys2, hlz⟩ := lz_any y (by omega) hy
  obtain ⟨Y, H, l1, U, T, hY, hU, hT, HY, HU, eY, eH, el1, eU, eT⟩ := div64_norm hi lo y s hlt hlo hs hys2
  obtain ⟨v1, v0, hv1, hv0, HV, ev1, ev0⟩ := halves Y hY
  obtain ⟨u1, u0, hu1, hu0, HT, eu1, eu0⟩ := halves T hT
  have hv1b : 2147483648 ≤ v1 := by have h1 := HV.out; have h2 := HY.out; omega
  have hYb : Y ≤ 18446744073709551615 := by rw [B64_eq] at hY; omega
  have hb1 : ((hi : Int) == 0) = false := by rw [beq_eq_false_iff_ne]; omega
  have hb2 : ((y : Int) == 0) = false := by rw [beq_eq_false_iff_ne]; omega
  have h64 : (0 : Int) ≤ 64 - (s : Int) := by omega
  have Hlz := hid hlz
  have hUV : U < v1 * 4294967296 + v0 := by rw [HV.out]; exact hU
  obtain ⟨q0, m0, hm0, hm1, hq0, Hg0, eq0, em0⟩ := guess_ex U u1 v1 v0 hu1 hv0 hv1 hv1b hUV
  have hUb : U ≤ 18446744073709551615 := by omega
  have HhY := hid hY
  have HhU := hid hUV
  clear hlz hys1 hys2 hY hT hUV
  go_enter Tryz.func112, Tryz.ntmps112
  go_wp2_with fail
  refine (Hlz.out _).mono ?_
  rintro e w' ⟨rfl, rfl⟩
  go_wp2_with fail
  go_loop [15, 16] (fun qv rv => ∃ q r : Nat, qv = .int .u64 q ∧ rv = .int .u64 r ∧ r < 4294967296 ∧ q ≤ 4294967297 ∧ Guess 4294967296 U u1 v1 v0 q r) (fun qv _ => (intOf qv).toNat)
  case atStart => exact ⟨q0, U - m0, rfl, by go_num, by omega, hq0, Hg0.out⟩
  case round =>
    clear eq0 em0 Hg0 hm0 hm1 hq0 eY eH el1 eU eT eu1 eu0 ev1 ev0 h64
    obtain ⟨q, r, rfl, rfl, hr, hq, hg⟩ := hrel
    have Hg := hid hg
    clear hg
    by_cases hbig : 4294967296 ≤ q ∨ 4294967296 * r + u1 < q * v0
    · obtain ⟨hqp, hg2⟩ := Hg.out.down HhU.out hu1 hbig
      obtain ⟨Q, hQ⟩ : ∃ Q, q - 1 = Q := ⟨_, rfl⟩
      obtain ⟨R, hR⟩ : ∃ R, r + v1 = R := ⟨_, rfl⟩
      have eQ : (q : Int) - 1 = (Q : Int) := by omega
      have eR : (r : Int) + (v1 : Int) = (R : Int) := by omega
      have hRb : R ≤ 8589934592 := by omega
      by_cases hbrk : 4294967296 ≤ R
      · have hQd : Q = (U * 4294967296 + u1) / (v1 * 4294967296 + v0) := by rw [← hQ]; exact guess_break hg2 (by omega) hv0 hq (by omega)
        rw [HV.out] at hQd
        obtain ⟨A, C, N, hA, hN, HN, eA, eC, eN⟩ := rem_ex U u1 Q Y (by omega) HhY.out hQd
        have HQb : Hid (Q < 4294967296) := by
          show Q < 4294967296
          rw [hQd, Nat.div_lt_iff_lt_mul (by omega)]
          have := Nat.mul_le_mul_right 4294967296 (show U + 1 ≤ Y from hU)
          omega
        have hNV : N < v1 * 4294967296 + v0 := by rw [HV.out]; exact hN
        obtain ⟨p0, k0, hk0, hk1, hp0, Hp0, ep0, ek0⟩ := guess_ex N u0 v1 v0 hu0 hv0 hv1 hv1b hNV
        have hNb : N ≤ 18446744073709551615 := by omega
        have HhNY : Hid (N < Y) := hN
        have HhN := hid hNV
        have hbrk' : (4294967296 : Int) ≤ (R : Int) := by omega
        by_cases hq32 : 4294967296 ≤ q
        · have hq32' : (4294967296 : Int) ≤ (q : Int) := by omega
          clear hbig hQ hq32 hbrk hQd hNV hg2 hR hqp
          go_wp2_with fail
          go_loop [18, 16] (fun qv rv => ∃ p r : Nat, qv = .int .u64 p ∧ rv = .int .u64 r ∧ r < 4294967296 ∧ p ≤ 4294967297 ∧ Guess 4294967296 N u0 v1 v0 p r) (fun qv _ => (intOf qv).toNat)
          case atStart => exact ⟨p0, N - k0, rfl, by go_num, by omega, hp0, Hp0.out⟩
          case round =>
            clear ep0 ek0 Hp0 hk0 hk1 hp0 eA eC eN
            obtain ⟨p, r', rfl, rfl, hr', hp, hg'⟩ := hrel
            have Hg' := hid hg'
            clear hg'
            by_cases hbig' : 4294967296 ≤ p ∨ 4294967296 * r' + u0 < p * v0
            · obtain ⟨hpp, hg2'⟩ := Hg'.out.down HhN.out hu0 hbig'
              obtain ⟨P, hP⟩ : ∃ P, p - 1 = P := ⟨_, rfl⟩
              obtain ⟨R', hR'⟩ : ∃ R, r' + v1 = R := ⟨_, rfl⟩
              have eP : (p : Int) - 1 = (P : Int) := by omega
              have eR' : (r' : Int) + (v1 : Int) = (R' : Int) := by omega
              have hR'b : R' ≤ 8589934592 := by omega
              by_cases hbrk' : 4294967296 ≤ R'
              · have hPd : P = (N * 4294967296 + u0) / (v1 * 4294967296 + v0) := by rw [← hP]; exact guess_break hg2' (by omega) hv0 hp (by omega)
                rw [HV.out] at hPd
                obtain ⟨F, G, R2, hF, hR2, HR2, eF, eG, eR2⟩ := rem_ex N u0 P Y (by omega) HhY.out hPd
                have hPb : P < 4294967296 := by
                  rw [hPd, Nat.div_lt_iff_lt_mul (by omega)]
                  have := Nat.mul_le_mul_right 4294967296 (show N + 1 ≤ Y from HhNY.out)
                  omega
                have hQP : Q * 4294967296 + P < B64 := by have := HQb.out; rw [B64_eq]; omega
                obtain ⟨rr, er, Hrr⟩ := div_name R2 s
                have hR2b : R2 ≤ 18446744073709551615 := by omega
                have hQb' : (Q : Int) ≤ 4294967295 := by have := HQb.out; omega
                have hPb' : (P : Int) ≤ 4294967295 := by omega
                have hbrk2 : (4294967296 : Int) ≤ (R' : Int) := by omega
                by_cases hp32 : 4294967296 ≤ p
                · have hp32' : (4294967296 : Int) ≤ (p : Int) := by omega
                  clear hPd hg2' hR' hbig' hP hp32 hbrk' hpp
                  go_wp2_with fail
                  go_ret2
                  exact div64_ret Hrr.out hQP (div64_end HY.out HU.out HT.out HN.out HR2.out hR2)
                · have hsm : 4294967296 * r' + u0 < p * v0 := hbig'.resolve_left hp32
                  have hp32' : ¬ (4294967296 : Int) ≤ (p : Int) := by omega
                  have hm1 : (p : Int) * (v0 : Int) ≤ 18446744073709551615 := by
                    have := Nat.mul_le_mul (show p ≤ 4294967296 by omega) (show v0 ≤ 4294967295 by omega)
                    rw [← Int.natCast_mul]; omega
                  have hm2 : (0 : Int) ≤ (p : Int) * (v0 : Int) := by rw [← Int.natCast_mul]; omega
                  have hsm' : (4294967296 : Int) * (r' : Int) + (u0 : Int) < (p : Int) * (v0 : Int) := by rw [← Int.natCast_mul]; omega
                  clear hPd hg2' hR' hbig' hP hp32 hbrk' hpp hsm
                  go_wp2_with fail
                  go_ret2
                  exact div64_ret Hrr.out hQP (div64_end HY.out HU.out HT.out HN.out HR2.out hR2)
              · have hbrk2 : ¬ (4294967296 : Int) ≤ (R' : Int) := by omega
                have HgP : Hid (Guess 4294967296 N u0 v1 v0 P R') := by rw [← hP, ← hR']; exact hg2'
                by_cases hp32 : 4294967296 ≤ p
                · have hp32' : (4294967296 : Int) ≤ (p : Int) := by omega
                  clear hg2' hR' hbig' hP hp32
                  go_wp2_with fail
                  go_round
                  case rel => exact ⟨P, R', rfl, rfl, by omega, by omega, HgP.out⟩
                  case measure => simp [intOf]; omega
                · have hsm : 4294967296 * r' + u0 < p * v0 := hbig'.resolve_left hp32
                  have hp32' : ¬ (4294967296 : Int) ≤ (p : Int) := by omega
                  have hm1 : (p : Int) * (v0 : Int) ≤ 18446744073709551615 := by
                    have := Nat.mul_le_mul (show p ≤ 4294967296 by omega) (show v0 ≤ 4294967295 by omega)
                    rw [← Int.natCast_mul]; omega
                  have hm2 : (0 : Int) ≤ (p : Int) * (v0 : Int) := by rw [← Int.natCast_mul]; omega
                  have hsm' : (4294967296 : Int) * (r' : Int) + (u0 : Int) < (p : Int) * (v0 : Int) := by rw [← Int.natCast_mul]; omega
                  clear hg2' hR' hbig' hP hp32 hsm
                  go_wp2_with fail
                  go_round
                  case rel => exact ⟨P, R', rfl, rfl, by omega, by omega, HgP.out⟩
                  case measure => simp [intOf]; omega
            · have hp32 : ¬ 4294967296 ≤ p := fun h => hbig' (Or.inl h)
              have hsm : p * v0 ≤ 4294967296 * r' + u0 := Nat.le_of_not_lt fun h => hbig' (Or.inr h)
              obtain ⟨P, hP⟩ : ∃ P, p = P := ⟨_, rfl⟩
              subst hP
              have hPd : p = (N * 4294967296 + u0) / (v1 * 4294967296 + v0) := Hg'.out.done (by omega) hsm
              obtain ⟨P, rfl⟩ : ∃ P, P = p := ⟨_, rfl⟩
              rw [HV.out] at hPd
              obtain ⟨F, G, R2, hF, hR2, HR2, eF, eG, eR2⟩ := rem_ex N u0 P Y (by omega) HhY.out hPd
              have hPb : P < 4294967296 := by
                rw [hPd, Nat.div_lt_iff_lt_mul (by omega)]
                have := Nat.mul_le_mul_right 4294967296 (show N + 1 ≤ Y from HhNY.out)
                omega
              have hQP : Q * 4294967296 + P < B64 := by have := HQb.out; rw [B64_eq]; omega
              obtain ⟨rr, er, Hrr⟩ := div_name R2 s
              have hR2b : R2 ≤ 18446744073709551615 := by omega
              have hQb' : (Q : Int) ≤ 4294967295 := by have := HQb.out; omega
              have hPb' : (P : Int) ≤ 4294967295 := by omega
              have hp32' : ¬ (4294967296 : Int) ≤ (P : Int) := by omega
              have hm1 : (P : Int) * (v0 : Int) ≤ 18446744073709551615 := by
                have := Nat.mul_le_mul (show P ≤ 4294967296 by omega) (show v0 ≤ 4294967295 by omega)
                rw [← Int.natCast_mul]; omega
              have hm2 : (0 : Int) ≤ (P : Int) * (v0 : Int) := by rw [← Int.natCast_mul]; omega
              have hsm' : ¬ (4294967296 : Int) * (r' : Int) + (u0 : Int) < (P : Int) * (v0 : Int) := by rw [← Int.natCast_mul]; omega
              clear hPd hbig' hp32 hsm
              go_wp2_with fail
              go_ret2
              exact div64_ret Hrr.out hQP (div64_end HY.out HU.out HT.out HN.out HR2.out hR2)
        · have hsm : 4294967296 * r + u1 < q * v0 := hbig.resolve_left hq32
          have hq32' : ¬ (4294967296 : Int) ≤ (q : Int) := by omega
          have hm1 : (q : Int) * (v0 : Int) ≤ 18446744073709551615 := by
            have := Nat.mul_le_mul (show q ≤ 4294967296 by omega) (show v0 ≤ 4294967295 by omega)
            rw [← Int.natCast_mul]; omega
          have hm2 : (0 : Int) ≤ (q : Int) * (v0 : Int) := by rw [← Int.natCast_mul]; omega
          have hsm' : (4294967296 : Int) * (r : Int) + (u1 : Int) < (q : Int) * (v0 : Int) := by rw [← Int.natCast_mul]; omega
          clear hbig hQ hq32 hbrk hQd hNV hg2 hR hqp hsm
          go_wp2_with fail
          go_loop [18, 16] (fun qv rv => ∃ p r : Nat, qv = .int .u64 p ∧ rv = .int .u64 r ∧ r < 4294967296 ∧ p ≤ 4294967297 ∧ Guess 4294967296 N u0 v1 v0 p r) (fun qv _ => (intOf qv).toNat)
          case atStart => exact ⟨p0, N - k0, rfl, by go_num, by omega, hp0, Hp0.out⟩
          case round =>
            clear ep0 ek0 Hp0 hk0 hk1 hp0 eA eC eN
            obtain ⟨p, r', rfl, rfl, hr', hp, hg'⟩ := hrel
            have Hg' := hid hg'
            clear hg'
            by_cases hbig' : 4294967296 ≤ p ∨ 4294967296 * r' + u0 < p * v0
            · obtain ⟨hpp, hg2'⟩ := Hg'.out.down HhN.out hu0 hbig'
              obtain ⟨P, hP⟩ : ∃ P, p - 1 = P := ⟨_, rfl⟩
              obtain ⟨R', hR'⟩ : ∃ R, r' + v1 = R := ⟨_, rfl⟩
              have eP : (p : Int) - 1 = (P : Int) := by omega
              have eR' : (r' : Int) + (v1 : Int) = (R' : Int) := by omega
              have hR'b : R' ≤ 8589934592 := by omega
              by_cases hbrk' : 4294967296 ≤ R'
              · have hPd : P = (N * 4294967296 + u0) / (v1 * 4294967296 + v0) := by rw [← hP]; exact guess_break hg2' (by omega) hv0 hp (by omega)
                rw [HV.out] at hPd
                obtain ⟨F, G, R2, hF, hR2, HR2, eF, eG, eR2⟩ := rem_ex N u0 P Y (by omega) HhY.out hPd
                have hPb : P < 4294967296 := by
                  rw [hPd, Nat.div_lt_iff_lt_mul (by omega)]
                  have := Nat.mul_le_mul_right 4294967296 (show N + 1 ≤ Y from HhNY.out)
                  omega
                have hQP : Q * 4294967296 + P < B64 := by have := HQb.out; rw [B64_eq]; omega
                obtain ⟨rr, er, Hrr⟩ := div_name R2 s
                have hR2b : R2 ≤ 18446744073709551615 := by omega
                have hQb' : (Q : Int) ≤ 4294967295 := by have := HQb.out; omega
                have hPb' : (P : Int) ≤ 4294967295 := by omega
                have hbrk2 : (4294967296 : Int) ≤ (R' : Int) := by omega
                by_cases hp32 : 4294967296 ≤ p
                · have hp32' : (4294967296 : Int) ≤ (p : Int) := by omega
                  clear hPd hg2' hR' hbig' hP hp32 hbrk' hpp
                  go_wp2_with fail
                  go_ret2
                  exact div64_ret Hrr.out hQP (div64_end HY.out HU.out HT.out HN.out HR2.out hR2)
                · have hsm : 4294967296 * r' + u0 < p * v0 := hbig'.resolve_left hp32
                  have hp32' : ¬ (4294967296 : Int) ≤ (p : Int) := by omega
                  have hm1 : (p : Int) * (v0 : Int) ≤ 18446744073709551615 := by
                    have := Nat.mul_le_mul (show p ≤ 4294967296 by omega) (show v0 ≤ 4294967295 by omega)
                    rw [← Int.natCast_mul]; omega
                  have hm2 : (0 : Int) ≤ (p : Int) * (v0 : Int) := by rw [← Int.natCast_mul]; omega
                  have hsm' : (4294967296 : Int) * (r' : Int) + (u0 : Int) < (p : Int) * (v0 : Int) := by rw [← Int.natCast_mul]; omega
                  clear hPd hg2' hR' hbig' hP hp32 hbrk' hpp hsm
                  go_wp2_with fail
                  go_ret2
                  exact div64_ret Hrr.out hQP (div64_end HY.out HU.out HT.out HN.out HR2.out hR2)
              · have hbrk2 : ¬ (4294967296 : Int) ≤ (R' : Int) := by omega
                have HgP : Hid (Guess 4294967296 N u0 v1 v0 P R') := by rw [← hP, ← hR']; exact hg2'
                by_cases hp32 : 4294967296 ≤ p
                · have hp32' : (4294967296 : Int) ≤ (p : Int) := by omega
                  clear hg2' hR' hbig' hP hp32
                  go_wp2_with fail
                  go_round
                  case rel => exact ⟨P, R', rfl, rfl, by omega, by omega, HgP.out⟩
                  case measure => simp [intOf]; omega
                · have hsm : 4294967296 * r' + u0 < p * v0 := hbig'.resolve_left hp32
                  have hp32' : ¬ (4294967296 : Int) ≤ (p : Int) := by omega
                  have hm1 : (p : Int) * (v0 : Int) ≤ 18446744073709551615 := by
                    have := Nat.mul_le_mul (show p ≤ 4294967296 by omega) (show v0 ≤ 4294967295 by omega)
                    rw [← Int.natCast_mul]; omega
                  have hm2 : (0 : Int) ≤ (p : Int) * (v0 : Int) := by rw [← Int.natCast_mul]; omega
                  have hsm' : (4294967296 : Int) * (r' : Int) + (u0 : Int) < (p : Int) * (v0 : Int) := by rw [← Int.natCast_mul]; omega
                  clear hg2' hR' hbig' hP hp32 hsm
                  go_wp2_with fail
                  go_round
                  case rel => exact ⟨P, R', rfl, rfl, by omega, by omega, HgP.out⟩
                  case measure => simp [intOf]; omega
            · have hp32 : ¬ 4294967296 ≤ p := fun h => hbig' (Or.inl h)
              have hsm : p * v0 ≤ 4294967296 * r' + u0 := Nat.le_of_not_lt fun h => hbig' (Or.inr h)
              obtain ⟨P, hP⟩ : ∃ P, p = P := ⟨_, rfl⟩
              subst hP
              have hPd : p = (N * 4294967296 + u0) / (v1 * 4294967296 + v0) := Hg'.out.done (by omega) hsm
              obtain ⟨P, rfl⟩ : ∃ P, P = p := ⟨_, rfl⟩
              rw [HV.out] at hPd
              obtain ⟨F, G, R2, hF, hR2, HR2, eF, eG, eR2⟩ := rem_ex N u0 P Y (by omega) HhY.out hPd
              have hPb : P < 4294967296 := by
                rw [hPd, Nat.div_lt_iff_lt_mul (by omega)]
                have := Nat.mul_le_mul_right 4294967296 (show N + 1 ≤ Y from HhNY.out)
                omega
              have hQP : Q * 4294967296 + P < B64 := by have := HQb.out; rw [B64_eq]; omega
              obtain ⟨rr, er, Hrr⟩ := div_name R2 s
              have hR2b : R2 ≤ 18446744073709551615 := by omega
              have hQb' : (Q : Int) ≤ 4294967295 := by have := HQb.out; omega
              have hPb' : (P : Int) ≤ 4294967295 := by omega
              have hp32' : ¬ (4294967296 : Int) ≤ (P : Int) := by omega
              have hm1 : (P : Int) * (v0 : Int) ≤ 18446744073709551615 := by
                have := Nat.mul_le_mul (show P ≤ 4294967296 by omega) (show v0 ≤ 4294967295 by omega)
                rw [← Int.natCast_mul]; omega
              have hm2 : (0 : Int) ≤ (P : Int) * (v0 : Int) := by rw [← Int.natCast_mul]; omega
              have hsm' : ¬ (4294967296 : Int) * (r' : Int) + (u0 : Int) < (P : Int) * (v0 : Int) := by rw [← Int.natCast_mul]; omega
              clear hPd hbig' hp32 hsm
              go_wp2_with fail
              go_ret2
              exact div64_ret Hrr.out hQP (div64_end HY.out HU.out HT.out HN.out HR2.out hR2)
      · have hbrk' : ¬ (4294967296 : Int) ≤ (R : Int) := by omega
        have HgQ : Hid (Guess 4294967296 U u1 v1 v0 Q R) := by rw [← hQ, ← hR]; exact hg2
        by_cases hq32 : 4294967296 ≤ q
        · have hq32' : (4294967296 : Int) ≤ (q : Int) := by omega
          clear hbig hQ hq32 hg2 hR
          go_wp2_with fail
          go_round
          case rel => exact ⟨Q, R, rfl, rfl, by omega, by omega, HgQ.out⟩
          case measure => simp [intOf]; omega
        · have hsm : 4294967296 * r + u1 < q * v0 := hbig.resolve_left hq32
          have hq32' : ¬ (4294967296 : Int) ≤ (q : Int) := by omega
          have hm1 : (q : Int) * (v0 : Int) ≤ 18446744073709551615 := by
            have := Nat.mul_le_mul (show q ≤ 4294967296 by omega) (show v0 ≤ 4294967295 by omega)
            rw [← Int.natCast_mul]; omega
          have hm2 : (0 : Int) ≤ (q : Int) * (v0 : Int) := by rw [← Int.natCast_mul]; omega
          have hsm' : (4294967296 : Int) * (r : Int) + (u1 : Int) < (q : Int) * (v0 : Int) := by rw [← Int.natCast_mul]; omega
          clear hbig hQ hq32 hg2 hR hsm
          go_wp2_with fail
          go_round
          case rel => exact ⟨Q, R, rfl, rfl, by omega, by omega, HgQ.out⟩
          case measure => simp [intOf]; omega
    · have hq32 : ¬ 4294967296 ≤ q := fun h => hbig (Or.inl h)
      have hsm : q * v0 ≤ 4294967296 * r + u1 := Nat.le_of_not_lt fun h => hbig (Or.inr h)
      have hQd : q = (U * 4294967296 + u1) / (v1 * 4294967296 + v0) := Hg.out.done (by omega) hsm
      obtain ⟨Q, rfl⟩ : ∃ Q, Q = q := ⟨_, rfl⟩
      rw [HV.out] at hQd
      obtain ⟨A, C, N, hA, hN, HN, eA, eC, eN⟩ := rem_ex U u1 Q Y (by omega) HhY.out hQd
      have HQb : Hid (Q < 4294967296) := by
        show Q < 4294967296
        rw [hQd, Nat.div_lt_iff_lt_mul (by omega)]
        have := Nat.mul_le_mul_right 4294967296 (show U + 1 ≤ Y from hU)
        omega
      have hNV : N < v1 * 4294967296 + v0 := by rw [HV.out]; exact hN
      obtain ⟨p0, k0, hk0, hk1, hp0, Hp0, ep0, ek0⟩ := guess_ex N u0 v1 v0 hu0 hv0 hv1 hv1b hNV
      have hNb : N ≤ 18446744073709551615 := by omega
      have HhNY : Hid (N < Y) := hN
      have HhN := hid hNV
      have hq32' : ¬ (4294967296 : Int) ≤ (Q : Int) := by omega
      have hm1 : (Q : Int) * (v0 : Int) ≤ 18446744073709551615 := by
        have := Nat.mul_le_mul (show Q ≤ 4294967296 by omega) (show v0 ≤ 4294967295 by omega)
        rw [← Int.natCast_mul]; omega
      have hm2 : (0 : Int) ≤ (Q : Int) * (v0 : Int) := by rw [← Int.natCast_mul]; omega
      have hsm' : ¬ (4294967296 : Int) * (r : Int) + (u1 : Int) < (Q : Int) * (v0 : Int) := by rw [← Int.natCast_mul]; omega
      clear hbig hq32 hQd hNV hsm
      go_wp2_with fail
      go_loop [18, 16] (fun qv rv => ∃ p r : Nat, qv = .int .u64 p ∧ rv = .int .u64 r ∧ r < 4294967296 ∧ p ≤ 4294967297 ∧ Guess 4294967296 N u0 v1 v0 p r) (fun qv _ => (intOf qv).toNat)
      case atStart => exact ⟨p0, N - k0, rfl, by go_num, by omega, hp0, Hp0.out⟩
      case round =>
        clear ep0 ek0 Hp0 hk0 hk1 hp0 eA eC eN
        obtain ⟨p, r', rfl, rfl, hr', hp, hg'⟩ := hrel
        have Hg' := hid hg'
        clear hg'
        by_cases hbig' : 4294967296 ≤ p ∨ 4294967296 * r' + u0 < p * v0
        · obtain ⟨hpp, hg2'⟩ := Hg'.out.down HhN.out hu0 hbig'
          obtain ⟨P, hP⟩ : ∃ P, p - 1 = P := ⟨_, rfl⟩
          obtain ⟨R', hR'⟩ : ∃ R, r' + v1 = R := ⟨_, rfl⟩
          have eP : (p : Int) - 1 = (P : Int) := by omega
          have eR' : (r' : Int) + (v1 : Int) = (R' : Int) := by omega
          have hR'b : R' ≤ 8589934592 := by omega
          by_cases hbrk' : 4294967296 ≤ R'
          · have hPd : P = (N * 4294967296 + u0) / (v1 * 4294967296 + v0) := by rw [← hP]; exact guess_break hg2' (by omega) hv0 hp (by omega)
            rw [HV.out] at hPd
            obtain ⟨F, G, R2, hF, hR2, HR2, eF, eG, eR2⟩ := rem_ex N u0 P Y (by omega) HhY.out hPd
            have hPb : P < 4294967296 := by
              rw [hPd, Nat.div_lt_iff_lt_mul (by omega)]
              have := Nat.mul_le_mul_right 4294967296 (show N + 1 ≤ Y from HhNY.out)
              omega
            have hQP : Q * 4294967296 + P < B64 := by have := HQb.out; rw [B64_eq]; omega
            obtain ⟨rr, er, Hrr⟩ := div_name R2 s
            have hR2b : R2 ≤ 18446744073709551615 := by omega
            have hQb' : (Q : Int) ≤ 4294967295 := by have := HQb.out; omega
            have hPb' : (P : Int) ≤ 4294967295 := by omega
            have hbrk2 : (4294967296 : Int) ≤ (R' : Int) := by omega
            by_cases hp32 : 4294967296 ≤ p
            · have hp32' : (4294967296 : Int) ≤ (p : Int) := by omega
              clear hPd hg2' hR' hbig' hP hp32 hbrk' hpp
              go_wp2_with fail
              go_ret2
              exact div64_ret Hrr.out hQP (div64_end HY.out HU.out HT.out HN.out HR2.out hR2)
            · have hsm : 4294967296 * r' + u0 < p * v0 := hbig'.resolve_left hp32
              have hp32' : ¬ (4294967296 : Int) ≤ (p : Int) := by omega
              have hm1 : (p : Int) * (v0 : Int) ≤ 18446744073709551615 := by
                have := Nat.mul_le_mul (show p ≤ 4294967296 by omega) (show v0 ≤ 4294967295 by omega)
                rw [← Int.natCast_mul]; omega
              have hm2 : (0 : Int) ≤ (p : Int) * (v0 : Int) := by rw [← Int.natCast_mul]; omega
              have hsm' : (4294967296 : Int) * (r' : Int) + (u0 : Int) < (p : Int) * (v0 : Int) := by rw [← Int.natCast_mul]; omega
              clear hPd hg2' hR' hbig' hP hp32 hbrk' hpp hsm
              go_wp2_with fail
              go_ret2
              exact div64_ret Hrr.out hQP (div64_end HY.out HU.out HT.out HN.out HR2.out hR2)
          · have hbrk2 : ¬ (4294967296 : Int) ≤ (R' : Int) := by omega
            have HgP : Hid (Guess 4294967296 N u0 v1 v0 P R') := by rw [← hP, ← hR']; exact hg2'
            by_cases hp32 : 4294967296 ≤ p
            · have hp32' : (4294967296 : Int) ≤ (p : Int) := by omega
              clear hg2' hR' hbig' hP hp32
              go_wp2_with fail
              go_round
              case rel => exact ⟨P, R', rfl, rfl, by omega, by omega, HgP.out⟩
              case measure => simp [intOf]; omega
            · have hsm : 4294967296 * r' + u0 < p * v0 := hbig'.resolve_left hp32
              have hp32' : ¬ (4294967296 : Int) ≤ (p : Int) := by omega
              have hm1 : (p : Int) * (v0 : Int) ≤ 18446744073709551615 := by
                have := Nat.mul_le_mul (show p ≤ 4294967296 by omega) (show v0 ≤ 4294967295 by omega)
                rw [← Int.natCast_mul]; omega
              have hm2 : (0 : Int) ≤ (p : Int) * (v0 : Int) := by rw [← Int.natCast_mul]; omega
              have hsm' : (4294967296 : Int) * (r' : Int) + (u0 : Int) < (p : Int) * (v0 : Int) := by rw [← Int.natCast_mul]; omega
              clear hg2' hR' hbig' hP hp32 hsm
              go_wp2_with fail
              go_round
              case rel => exact ⟨P, R', rfl, rfl, by omega, by omega, HgP.out⟩
              case measure => simp [intOf]; omega
        · have hp32 : ¬ 4294967296 ≤ p := fun h => hbig' (Or.inl h)
          have hsm : p * v0 ≤ 4294967296 * r' + u0 := Nat.le_of_not_lt fun h => hbig' (Or.inr h)
          obtain ⟨P, hP⟩ : ∃ P, p = P := ⟨_, rfl⟩
          subst hP
          have hPd : p = (N * 4294967296 + u0) / (v1 * 4294967296 + v0) := Hg'.out.done (by omega) hsm
          obtain ⟨P, rfl⟩ : ∃ P, P = p := ⟨_, rfl⟩
          rw [HV.out] at hPd
          obtain ⟨F, G, R2, hF, hR2, HR2, eF, eG, eR2⟩ := rem_ex N u0 P Y (by omega) HhY.out hPd
          have hPb : P < 4294967296 := by
            rw [hPd, Nat.div_lt_iff_lt_mul (by omega)]
            have := Nat.mul_le_mul_right 4294967296 (show N + 1 ≤ Y from HhNY.out)
            omega
          have hQP : Q * 4294967296 + P < B64 := by have := HQb.out; rw [B64_eq]; omega
          obtain ⟨rr, er, Hrr⟩ := div_name R2 s
          have hR2b : R2 ≤ 18446744073709551615 := by omega
          have hQb' : (Q : Int) ≤ 4294967295 := by have := HQb.out; omega
          have hPb' : (P : Int) ≤ 4294967295 := by omega
          have hp32' : ¬ (4294967296 : Int) ≤ (P : Int) := by omega
          have hm1 : (P : Int) * (v0 : Int) ≤ 18446744073709551615 := by
            have := Nat.mul_le_mul (show P ≤ 4294967296 by omega) (show v0 ≤ 4294967295 by omega)
            rw [← Int.natCast_mul]; omega
          have hm2 : (0 : Int) ≤ (P : Int) * (v0 : Int) := by rw [← Int.natCast_mul]; omega
          have hsm' : ¬ (4294967296 : Int) * (r' : Int) + (u0 : Int) < (P : Int) * (v0 : Int) := by rw [← Int.natCast_mul]; omega
          clear hPd hbig' hp32 hsm
          go_wp2_with fail
          go_ret2
          exact div64_ret Hrr.out hQP (div64_end HY.out HU.out HT.out HN.out HR2.out hR2)

end Go.Proofs.YtdiojbgbeeojkaaGreatDoor
