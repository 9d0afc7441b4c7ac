/-
  Division and shift, whatever they are given: the program's and the reference's, in the same words.
-/
import Derived.Test.YtciglkaekecddaaDoorMZZ
import Derived.Test.YtciglkaekecddaaDoorMZW
import Derived.Test.YtciglkaekecddaaDoorMBase
import Derived.Test.YtciglkaekecddaaDoorMLawA
import Derived.Test.YtciglkaekecddaaDoorMShI

namespace Go.Proofs.YtciglkaekecddaaDoor
open Go.RowKit

/-- What a division answers: the quotient, the rest, the fault's code. -/
def dvq (x y : Int) : Int := x / y
def dvr (x y : Int) : Int := if y = 0 then 0 else x % y
def dvc (y : Int) : Int := if y = 0 then 4 else 0

theorem dv_zero (x : Int) : dvq x 0 = 0 ∧ dvr x 0 = 0 ∧ dvc 0 = 4 := ⟨by unfold dvq; simp, by unfold dvr; rw [if_pos rfl], by unfold dvc; rw [if_pos rfl]⟩
theorem dv_of {x y q r : Int} (hy : y ≠ 0) (h : x = q * y + r) (h0 : 0 ≤ r) (h1 : r < y.natAbs) : q = dvq x y ∧ r = dvr x y ∧ dvc y = 0 := by
  have e1 : x = x / y * y + x % y := by rw [Int.mul_comm]; exact (Int.mul_ediv_add_emod x y).symm
  have e2 : x % y < y.natAbs := Int.emod_lt x hy
  obtain ⟨g1, g2⟩ := div_unique h e1 h0 h1 (Int.emod_nonneg x hy) e2
  refine ⟨g1, ?_, ?_⟩
  · unfold dvr; rw [if_neg hy]; exact g2
  · unfold dvc; rw [if_neg hy]

theorem Div_both (s1 s2 : Int) (a1 a2 : Option Addr) (n1 c1 n2 c2 : Nat) (z1 z2 : Int) (w : World) (h1 : IsInt w s1 a1 n1 c1 z1) (h2 : IsInt w s2 a2 n2 c2 z2) (K : Nat) (hK : K ≤ 4194304) (hK1 : 1 ≤ K) (hf1 : Fit K z1) (hf2 : Fit K z2) (Q R C : Int) (eQ : dvq z1 z2 = Q) (eR : dvr z1 z2 = R) (eC : dvc z2 = C) :
    Calls Tryd.prog 30 #[.agg #[.int .i64 s1, .slice a1 n1 c1], .agg #[.int .i64 s2, .slice a2 n2 c2]] w fun e w' => ∃ (s3 : Int) (a3 : Option Addr) (n3 c3 : Nat) (s4 : Int) (a4 : Option Addr) (n4 c4 : Nat), e = .returned (.tuple #[.agg #[.int .i64 s3, .slice a3 n3 c3], .agg #[.int .i64 s4, .slice a4 n4 c4], .agg #[.int .i64 C, .int .i64 0]]) ∧ IsInt w' s3 a3 n3 c3 Q ∧ IsInt w' s4 a4 n4 c4 R ∧ n3 ≤ K ∧ n4 ≤ K ∧ Ext w w' := by
  by_cases hy : z2 = 0
  · subst hy
    obtain ⟨g1, g2, g3⟩ := dv_zero z1
    obtain rfl : Q = 0 := by rw [← eQ, g1]
    obtain rfl : R = 0 := by rw [← eR, g2]
    obtain rfl : C = 4 := by rw [← eC, g3]
    exact (Div_zero s1 s2 a1 a2 n1 c1 n2 c2 w h2).mono fun e w' ⟨e1, e2⟩ => ⟨0, none, 0, 0, 0, none, 0, 0, e1, IsInt.small _ 0 (by omega) (by omega), IsInt.small _ 0 (by omega) (by omega), Nat.zero_le _, Nat.zero_le _, e2⟩
  · refine (Div_any s1 s2 a1 a2 n1 c1 n2 c2 z1 z2 w h1 h2 K hK hK1 hf1 hf2 hy).mono ?_
    rintro e w' ⟨s3, a3, n3, c3, s4, a4, n4, c4, q, r, rfl, Iq, Ir, hd, hx⟩
    obtain ⟨f1, f2, f3, f4⟩ := hd.facts
    obtain ⟨g1, g2, g3⟩ := dv_of hy f2.symm f4 (by omega)
    obtain rfl : C = 0 := by rw [← eC, g3]
    have k1 : Fit K q := Nat.lt_of_le_of_lt f1 hf1
    have k2 : Fit K r := Nat.lt_trans f3 hf2
    exact ⟨s3, a3, n3, c3, s4, a4, n4, c4, rfl, Iq.cast (g1.trans eQ), Ir.cast (g2.trans eR), Iq.len k1, Ir.len k2, hx⟩

theorem ZDiv_both (b1 b2 : Bool) (a1 a2 : Option Addr) (n1 c1 n2 c2 : Nat) (z1 z2 : Int) (w : World) (h1 : IsZ w b1 a1 n1 c1 z1) (h2 : IsZ w b2 a2 n2 c2 z2) (hn1 : n1 ≤ 300000) (hn2 : n2 ≤ 300000) (Q R C : Int) (eQ : dvq z1 z2 = Q) (eR : dvr z1 z2 = R) (eC : dvc z2 = C) :
    Calls Tryd.prog 31 #[.agg #[.bool b1, .slice a1 n1 c1], .agg #[.bool b2, .slice a2 n2 c2]] w fun e w' => ∃ (b3 : Bool) (a3 : Option Addr) (n3 c3 : Nat) (b4 : Bool) (a4 : Option Addr) (n4 c4 : Nat), e = .returned (.tuple #[.agg #[.bool b3, .slice a3 n3 c3], .agg #[.bool b4, .slice a4 n4 c4], .agg #[.int .i64 C, .int .i64 0]]) ∧ IsZ w' b3 a3 n3 c3 Q ∧ IsZ w' b4 a4 n4 c4 R ∧ n3 ≤ 400000 ∧ n4 ≤ 400000 ∧ Ext w w' := by
  by_cases hy : z2 = 0
  · subst hy
    obtain ⟨g1, g2, g3⟩ := dv_zero z1
    obtain rfl : Q = 0 := by rw [← eQ, g1]
    obtain rfl : R = 0 := by rw [← eR, g2]
    obtain rfl : C = 4 := by rw [← eC, g3]
    exact (ZDiv_zero b1 b2 a1 a2 n1 c1 n2 c2 w h2).mono fun e w' ⟨e1, e2⟩ => ⟨false, none, 0, 0, false, none, 0, 0, e1, IsZ.zero _, IsZ.zero _, Nat.zero_le _, Nat.zero_le _, e2⟩
  · refine (ZDiv_any b1 b2 a1 a2 n1 c1 n2 c2 z1 z2 w h1 h2 hn1 hn2 hy).mono ?_
    rintro e w' ⟨b3, a3, n3, c3, b4, a4, n4, c4, q, r, rfl, Iq, Ir, f2, f4, f3, l3, l4, hx⟩
    obtain ⟨g1, g2, g3⟩ := dv_of hy f2 f4 f3
    obtain rfl : C = 0 := by rw [← eC, g3]
    exact ⟨b3, a3, n3, c3, b4, a4, n4, c4, rfl, Iq.cast (g1.trans eQ), Ir.cast (g2.trans eR), by omega, by omega, hx⟩

/-- What is shifted has some two hundred words at most. -/
theorem up_room (n m N M x : Nat) (hx : x ≤ 2 ^ (4 * n)) (hN : N ≤ M) (h : 4 * n + M < 64 * m) : x * 2 ^ N < B64 ^ m := by
  have h1 : x * 2 ^ N ≤ 2 ^ (4 * n) * 2 ^ M := Nat.mul_le_mul hx (Nat.pow_le_pow_right (by decide) hN)
  refine Nat.lt_of_le_of_lt h1 ?_
  rw [B64_two, ← Nat.pow_add, ← Nat.pow_mul]
  exact Nat.pow_lt_pow_right (by decide) h
theorem down_room (n m x : Nat) (hx : x ≤ 2 ^ (4 * n)) (h : 4 * n < 64 * m) : x < B64 ^ m := by
  refine Nat.lt_of_le_of_lt hx ?_
  rw [B64_two, ← Nat.pow_mul]
  exact Nat.pow_lt_pow_right (by decide) h
theorem fit_up {z : Int} {N : Nat} (hz : z.natAbs < Lim) (hN : N ≤ 10000) : Fit 256 (z * ((2 ^ N : Nat) : Int)) := by
  unfold Fit
  rw [Int.natAbs_mul, Int.natAbs_natCast]
  exact up_room limN 256 N 10000 _ (Nat.le_trans (Nat.le_of_lt hz) lim_two) hN (by decide)
theorem fit_down {z : Int} {N : Nat} (hz : z.natAbs < Lim) : Fit 256 (z / ((2 ^ N : Nat) : Int)) := by
  unfold Fit
  have h0 : (z / ((2 ^ N : Nat) : Int)).natAbs ≤ z.natAbs := Int.natAbs_ediv_le_natAbs _ _
  exact down_room limN 256 _ (Nat.le_trans h0 (Nat.le_trans (Nat.le_of_lt hz) lim_two)) (by decide)

theorem Shift_all (sm : Int) (ao : Option Addr) (n c : Nat) (z k : Int) (w : World) (h : IsInt w sm ao n c z) (K : Nat) (hK : K ≤ 4194304) (hK1 : 1 ≤ K) (hf : Fit K z) (hz : z.natAbs < Lim) (hbr : Bru w) (V C : Int) (eV : shv z k = V) (eC : shc k = C) :
    Calls Tryd.prog 34 #[.agg #[.int .i64 sm, .slice ao n c], .int .i64 k] w fun e w' => ∃ (s' : Int) (a' : Option Addr) (n' c' : Nat), e = .returned (.tuple #[.agg #[.int .i64 s', .slice a' n' c'], .agg #[.int .i64 C, .int .i64 0]]) ∧ IsInt w' s' a' n' c' V ∧ n' ≤ 256 ∧ Ext w w' := by
  by_cases hb : k < -10000 ∨ 10000 < k
  · unfold shv at eV; unfold shc at eC
    rw [if_pos hb] at eV eC
    subst eV; subst eC
    exact (Shift_bad sm ao n c k w hb).mono fun e w' ⟨e1, e2⟩ => ⟨0, none, 0, 0, e1, IsInt.small _ 0 (by omega) (by omega), Nat.zero_le _, e2⟩
  · unfold shv at eV; unfold shc at eC
    rw [if_neg hb] at eV eC
    subst eC
    by_cases hp : 0 ≤ k
    · rw [if_pos hp] at eV
      obtain ⟨N, rfl⟩ : ∃ N : Nat, k = (N : Int) := ⟨k.toNat, by omega⟩
      rw [Int.toNat_natCast] at eV
      refine (Shift_up sm ao n c z N w h (by omega) K hK hf).mono ?_
      rintro e w' ⟨s', a', n', c', rfl, I, hx⟩
      have hl := I.len (fit_up hz (by omega))
      exact ⟨s', a', n', c', rfl, I.cast eV, hl, hx⟩
    · rw [if_neg hp] at eV
      obtain ⟨N, rfl⟩ : ∃ N : Nat, k = -(N : Int) := ⟨(-k).toNat, by omega⟩
      rw [show (- -(N : Int)).toNat = N from by omega] at eV
      refine (Shift_down sm ao n c z N w h (by omega) (by omega) K hK hK1 hf hbr).mono ?_
      rintro e w' ⟨s', a', n', c', rfl, I, hx⟩
      have hl := I.len (fit_down hz)
      exact ⟨s', a', n', c', rfl, I.cast eV, hl, hx⟩

theorem ZShift_all (b1 : Bool) (a1 : Option Addr) (n1 c1 : Nat) (z1 n : Int) (w : World) (h1 : IsZ w b1 a1 n1 c1 z1) (hn1 : n1 ≤ 300000) (hl : -9223372036854775808 ≤ n) (hh : n ≤ 9223372036854775807) (V C : Int) (eV : shv z1 n = V) (eC : shc n = C) :
    Calls Tryd.prog 35 #[.agg #[.bool b1, .slice a1 n1 c1], .int .i64 n] w fun e w' => ∃ (b' : Bool) (a' : Option Addr) (n' c' : Nat), e = .returned (.tuple #[.agg #[.bool b', .slice a' n' c'], .agg #[.int .i64 C, .int .i64 0]]) ∧ IsZ w' b' a' n' c' V ∧ n' ≤ 400000 ∧ Ext w w' := by
  subst eV; subst eC
  by_cases hnn : (n < -10000 ∨ 10000 < n) ∨ 0 ≤ n
  · exact ZShift_up b1 a1 n1 c1 z1 n w h1 hn1 hl hh hnn
  · have hb : ¬ (n < -10000 ∨ 10000 < n) := fun h => hnn (Or.inl h)
    have hp : ¬ 0 ≤ n := fun h => hnn (Or.inr h)
    unfold shv shc
    rw [if_neg hb, if_neg hb, if_neg hp]
    exact ZShift_down b1 a1 n1 c1 z1 n w h1 hn1 hb hp

end Go.Proofs.YtciglkaekecddaaDoor
