/-
  Shift. Division and shift, whatever they are given: the program's and the reference's, in the same words. WholeDivides: the walk.
-/
import Derived.Test.YtnemjllghpijgaaDoorProg
import Derived.Test.YtnemjllghpijgaaDoorRows
import Derived.BigQuiet
import Derived.BigRegion
import Derived.Deep.AppendLies
import Derived.Deep.Cut
import Derived.Deep.QuietTactic
import Derived.Deep.RegionHeld3
import Derived.Laws.Bits64b
import Derived.Laws.CopyOwn
import Derived.Laws.ResultCell
import Derived.Lib.AppendIntMem
import Derived.Lib.AppendStr
import Derived.Lib.BitFns
import Derived.Lib.Hide
import Derived.Lib.ItoaMem
import Derived.Lib.ItoaNum
import Derived.Lib.Strings
import Derived.Lib.TrailingZeros
import Derived.OwnWalk
import Derived.Shelf.Bits.Mul64
import Derived.Shelf.LaysM
import Derived.Shelf.Small.Bits
import Derived.Shelf.Small.Wraps
import Derived.Shelf.Spec.BitsCarry
import Derived.Shelf.Spec.TrailingZeros
import Derived.Shelf.Strconv.Itoa0
import Derived.Shelf.Strconv.Itoa1
import Derived.Shelf.Strconv.Itoa2
import Derived.Shelf.Strconv.Itoa3
import Derived.WalkKit
import Derived.WalkLawsBesides
import Derived.WalkSpells
import Derived.Test.YtnemjllghpijgaaDoorS00Mem
import Derived.Test.YtnemjllghpijgaaDoorShelf
import Derived.Test.YtnemjllghpijgaaDoorS02ShiftI
import Derived.Test.YtnemjllghpijgaaDoorS03GuessD
import Derived.Test.YtnemjllghpijgaaDoorS04IntB
import Derived.Test.YtnemjllghpijgaaDoorS05IntD
import Derived.Test.YtnemjllghpijgaaDoorS06ParE
import Derived.Test.YtnemjllghpijgaaDoorS07GcB
import Derived.Test.YtnemjllghpijgaaDoorS08TxF
import Derived.Test.YtnemjllghpijgaaDoorS09ZA
import Derived.Test.YtnemjllghpijgaaDoorS10ZJ
import Derived.Test.YtnemjllghpijgaaDoorS11ZK
import Derived.Test.YtnemjllghpijgaaDoorS12ZU
import Derived.Test.YtnemjllghpijgaaDoorS13ZW
import Derived.Test.YtnemjllghpijgaaDoorS14ZY
import Derived.Test.YtnemjllghpijgaaDoorS15ZUq
namespace Go.Proofs.YtnemjllghpijgaaDoor
open Go.RowKit

theorem two_cast (k : Nat) : ((2 ^ k : Nat) : Int) = (2 : Int) ^ k := by simp

theorem zfi_new (w : World) (o1 o2 : Obj) : ((w.alloc o1).alloc o2 |>.alloc (.cells #[.int .i64 0, .int .i64 0] 26)).heap[w.heap.size + 1 + 1]? = some (.cells #[.int .i64 0, .int .i64 0] 26 (0, 0)) := by
  have h := heap_alloc_new ((w.alloc o1).alloc o2) (.cells #[.int .i64 0, .int .i64 0] 26)
  rw [show ((w.alloc o1).alloc o2).heap.size = w.heap.size + 1 + 1 from by simp] at h
  exact h

set_option maxHeartbeats 2000000 in
set_option maxRecDepth 100000 in
/-- Shift, within its bounds: upward. -/
theorem Shift_up (sm : Int) (ao : Option Addr) (n c : Nat) (z : Int) (N : Nat) (w : World) (h : IsInt w sm ao n c z) (hN : N ≤ 10000) (K : Nat) (hK : K ≤ 4194304) (hf : Fit K z) :
    Calls Tryd.prog 13 #[.agg #[.int .i64 sm, .slice ao n c], .int .i64 (N : Int)] w fun e w' => ∃ (s' : Int) (a' : Option Addr) (n' c' : Nat), e = .returned (.tuple #[.agg #[.int .i64 s', .slice a' n' c'], .agg #[.int .i64 0, .int .i64 0]]) ∧ IsInt w' s' a' n' c' (z * ((2 ^ N : Nat) : Int)) ∧ Ext w w' := by
  have hE := (Ext.trans (Ext.trans (Ext.alloc w (.cells #[.int .i64 sm, .slice ao n c] 24)) (Ext.alloc _ (.cells #[.int .i64 0, .slice none 0 0] 24))) (Ext.alloc _ (.cells #[.int .i64 0, .int .i64 0] 26)))
  have hR : Res (((w.alloc (.cells #[.int .i64 sm, .slice ao n c] 24)).alloc (.cells #[.int .i64 0, .slice none 0 0] 24)).alloc (.cells #[.int .i64 0, .int .i64 0] 26)) (w.heap.size + 1) := by
    have h1 := heap_alloc_new (w.alloc (.cells #[.int .i64 sm, .slice ao n c] 24)) (.cells #[.int .i64 0, .slice none 0 0] 24)
    rw [show (w.alloc (.cells #[.int .i64 sm, .slice ao n c] 24)).heap.size = w.heap.size + 1 from by simp] at h1
    exact ⟨by simp, (Below.heap_alloc _ _ _ (by simp)).trans h1⟩
  have hF : FRes (((w.alloc (.cells #[.int .i64 sm, .slice ao n c] 24)).alloc (.cells #[.int .i64 0, .slice none 0 0] 24)).alloc (.cells #[.int .i64 0, .int .i64 0] 26)) (w.heap.size + 1 + 1) :=
    ⟨by simp, zfi_new w _ _⟩
  have H := hid h; have Hf := hid hf
  have i1 : ¬ (N : Int) < -10000 := by omega
  have i2 : ¬ (10000 : Int) < (N : Int) := by omega
  have i3 : ¬ (N : Int) < 0 := by omega
  have hw : IntKind.u64.wrap (N : Int) = (N : Int) := by rw [IntKind.wrap_u64]; omega
  clear h hf
  go_enter Tryd.func13, Tryd.ntmps13
  go_wp2_with fail
  generalize ((w.alloc (.cells #[.int .i64 sm, .slice ao n c] 24)).alloc (.cells #[.int .i64 0, .slice none 0 0] 24)).alloc (.cells #[.int .i64 0, .int .i64 0] 26) = W0 at *
  refine (double_any sm ao n c z N W0 (H.out.ext hE) (by omega) K hK Hf.out).mono ?_
  rintro e w3 ⟨s4, a4, n4, c4, rfl, hI4, he4⟩
  have hr4 := hR.ext he4; have hf4 := hF.ext he4
  have k0 := hr4.c0; have k1 := hr4.c1; have g0 := hr4.f0; have g1 := hr4.f1
  have k2 := hf4.c0; have k3 := hf4.c1; have g2 := hf4.f0; have g3 := hf4.f1
  go_wp2_with fail
  exact bodyPost_ret (v := .tuple #[.agg #[.int .i64 s4, .slice a4 n4 c4], .agg #[.int .i64 0, .int .i64 0]]) (by simp [results, Tryd.results13, go_sem, k0, k1, k2, k3]) rfl
    ⟨s4, a4, n4, c4, rfl, (hI4.cast (by rw [two_cast])).keep64 (Keep64.set4 (.i64 k0) (.slice k1) (.i64 k2) (.i64 k3) (notW_i64 _) (notW_slice _ _ _) (notW_i64 _) _), ((((hE.trans he4).set (show w.heap.size ≤ w.heap.size + 1 by omega) _).set (show w.heap.size ≤ w.heap.size + 1 by omega) _).set (show w.heap.size ≤ w.heap.size + 1 + 1 by omega) _).set (show w.heap.size ≤ w.heap.size + 1 + 1 by omega) _⟩

set_option maxHeartbeats 2000000 in
set_option maxRecDepth 100000 in
/-- Downward. -/
theorem Shift_down (sm : Int) (ao : Option Addr) (n c : Nat) (z : Int) (N : Nat) (w : World) (h : IsInt w sm ao n c z) (hN : N ≤ 10000) (hN1 : 1 ≤ N) (K : Nat) (hK : K ≤ 4194304) (hK1 : 1 ≤ K) (hf : Fit K z) (hbr : Bru w) :
    Calls Tryd.prog 13 #[.agg #[.int .i64 sm, .slice ao n c], .int .i64 (-(N : Int))] w fun e w' => ∃ (s' : Int) (a' : Option Addr) (n' c' : Nat), e = .returned (.tuple #[.agg #[.int .i64 s', .slice a' n' c'], .agg #[.int .i64 0, .int .i64 0]]) ∧ IsInt w' s' a' n' c' (z / ((2 ^ N : Nat) : Int)) ∧ Ext w w' := by
  have hE := (Ext.trans (Ext.trans (Ext.alloc w (.cells #[.int .i64 sm, .slice ao n c] 24)) (Ext.alloc _ (.cells #[.int .i64 0, .slice none 0 0] 24))) (Ext.alloc _ (.cells #[.int .i64 0, .int .i64 0] 26)))
  have hR : Res (((w.alloc (.cells #[.int .i64 sm, .slice ao n c] 24)).alloc (.cells #[.int .i64 0, .slice none 0 0] 24)).alloc (.cells #[.int .i64 0, .int .i64 0] 26)) (w.heap.size + 1) := by
    have h1 := heap_alloc_new (w.alloc (.cells #[.int .i64 sm, .slice ao n c] 24)) (.cells #[.int .i64 0, .slice none 0 0] 24)
    rw [show (w.alloc (.cells #[.int .i64 sm, .slice ao n c] 24)).heap.size = w.heap.size + 1 from by simp] at h1
    exact ⟨by simp, (Below.heap_alloc _ _ _ (by simp)).trans h1⟩
  have hF : FRes (((w.alloc (.cells #[.int .i64 sm, .slice ao n c] 24)).alloc (.cells #[.int .i64 0, .slice none 0 0] 24)).alloc (.cells #[.int .i64 0, .int .i64 0] 26)) (w.heap.size + 1 + 1) :=
    ⟨by simp, zfi_new w _ _⟩
  have H := hid h; have Hf := hid hf; have Hbr := hid hbr
  obtain ⟨k, hk⟩ : ∃ k : Int, -(N : Int) = k := ⟨_, rfl⟩
  rw [hk]
  have i1 : ¬ k < -10000 := by omega
  have i2 : ¬ (10000 : Int) < k := by omega
  have i3 : k < 0 := by omega
  have i4 : -9223372036854775808 ≤ k := by omega
  have hw1 : IntKind.i64.wrap (-k) = (N : Int) := by rw [IntKind.wrap_i64]; omega
  have hw0 : -k = (N : Int) := by omega
  have hw : IntKind.u64.wrap (N : Int) = (N : Int) := by rw [IntKind.wrap_u64]; omega
  clear h hf hbr hk
  go_enter Tryd.func13, Tryd.ntmps13
  go_wp2_with fail
  generalize ((w.alloc (.cells #[.int .i64 sm, .slice ao n c] 24)).alloc (.cells #[.int .i64 0, .slice none 0 0] 24)).alloc (.cells #[.int .i64 0, .int .i64 0] 26) = W0 at *
  refine (halve_any sm ao n c z N W0 (H.out.ext hE) (by omega) K hK hK1 Hf.out (bru_ext Hbr.out hE)).mono ?_
  rintro e w3 ⟨s4, a4, n4, c4, rfl, hI4, he4⟩
  have hr4 := hR.ext he4; have hf4 := hF.ext he4
  have k0 := hr4.c0; have k1 := hr4.c1; have g0 := hr4.f0; have g1 := hr4.f1
  have k2 := hf4.c0; have k3 := hf4.c1; have g2 := hf4.f0; have g3 := hf4.f1
  go_wp2_with fail
  exact bodyPost_ret (v := .tuple #[.agg #[.int .i64 s4, .slice a4 n4 c4], .agg #[.int .i64 0, .int .i64 0]]) (by simp [results, Tryd.results13, go_sem, k0, k1, k2, k3]) rfl
    ⟨s4, a4, n4, c4, rfl, (hI4.cast (by rw [two_cast])).keep64 (Keep64.set4 (.i64 k0) (.slice k1) (.i64 k2) (.i64 k3) (notW_i64 _) (notW_slice _ _ _) (notW_i64 _) _), ((((hE.trans he4).set (show w.heap.size ≤ w.heap.size + 1 by omega) _).set (show w.heap.size ≤ w.heap.size + 1 by omega) _).set (show w.heap.size ≤ w.heap.size + 1 + 1 by omega) _).set (show w.heap.size ≤ w.heap.size + 1 + 1 by omega) _⟩

set_option maxHeartbeats 1000000 in
set_option maxRecDepth 100000 in
/-- Beyond its bounds. -/
theorem Shift_bad (sm : Int) (ao : Option Addr) (n c : Nat) (k : Int) (w : World) (hb : k < -10000 ∨ 10000 < k) :
    Calls Tryd.prog 13 #[.agg #[.int .i64 sm, .slice ao n c], .int .i64 k] w fun e w' => e = .returned (.tuple #[.agg #[.int .i64 0, .slice none 0 0], .agg #[.int .i64 5, .int .i64 0]]) ∧ Ext w w' := by
  rcases hb with hb | hb
  · go_enter Tryd.func13, Tryd.ntmps13
    go_wp2_with fail
    exact bodyPost_ret (v := .tuple #[.agg #[.int .i64 0, .slice none 0 0], .agg #[.int .i64 5, .int .i64 0]]) (by simp [results, Tryd.results13, go_sem]) rfl ⟨rfl, (Ext.trans (Ext.trans (Ext.alloc _ _) (Ext.alloc _ _)) (Ext.alloc _ _))⟩
  · have hb' : ¬ k < -10000 := by omega
    go_enter Tryd.func13, Tryd.ntmps13
    go_wp2_with fail
    exact bodyPost_ret (v := .tuple #[.agg #[.int .i64 0, .slice none 0 0], .agg #[.int .i64 5, .int .i64 0]]) (by simp [results, Tryd.results13, go_sem]) rfl ⟨rfl, (Ext.trans (Ext.trans (Ext.alloc _ _) (Ext.alloc _ _)) (Ext.alloc _ _))⟩

end Go.Proofs.YtnemjllghpijgaaDoor
namespace Go.Proofs.YtnemjllghpijgaaDoor
open Go.RowKit

/-- What a division answers: the quotient, the rest, the fault's code. -/
def dvq (x y : Int) : Int := x / y
def dvr (x y : Int) : Int := if y = 0 then 0 else x % y
def dvc (y : Int) : Int := if y = 0 then 4 else 0

theorem dv_zero (x : Int) : dvq x 0 = 0 ∧ dvr x 0 = 0 ∧ dvc 0 = 4 := ⟨by unfold dvq; simp, by unfold dvr; rw [if_pos rfl], by unfold dvc; rw [if_pos rfl]⟩
theorem dv_of {x y q r : Int} (hy : y ≠ 0) (h : x = q * y + r) (h0 : 0 ≤ r) (h1 : r < y.natAbs) : q = dvq x y ∧ r = dvr x y ∧ dvc y = 0 := by
  have e1 : x = x / y * y + x % y := by rw [Int.mul_comm]; exact (Int.mul_ediv_add_emod x y).symm
  have e2 : x % y < y.natAbs := Int.emod_lt x hy
  obtain ⟨g1, g2⟩ := div_unique h e1 h0 h1 (Int.emod_nonneg x hy) e2
  refine ⟨g1, ?_, ?_⟩
  · unfold dvr; rw [if_neg hy]; exact g2
  · unfold dvc; rw [if_neg hy]

theorem Div_both (s1 s2 : Int) (a1 a2 : Option Addr) (n1 c1 n2 c2 : Nat) (z1 z2 : Int) (w : World) (h1 : IsInt w s1 a1 n1 c1 z1) (h2 : IsInt w s2 a2 n2 c2 z2) (K : Nat) (hK : K ≤ 4194304) (hK1 : 1 ≤ K) (hf1 : Fit K z1) (hf2 : Fit K z2) (Q R C : Int) (eQ : dvq z1 z2 = Q) (eR : dvr z1 z2 = R) (eC : dvc z2 = C) :
    Calls Tryd.prog 7 #[.agg #[.int .i64 s1, .slice a1 n1 c1], .agg #[.int .i64 s2, .slice a2 n2 c2]] w fun e w' => ∃ (s3 : Int) (a3 : Option Addr) (n3 c3 : Nat) (s4 : Int) (a4 : Option Addr) (n4 c4 : Nat), e = .returned (.tuple #[.agg #[.int .i64 s3, .slice a3 n3 c3], .agg #[.int .i64 s4, .slice a4 n4 c4], .agg #[.int .i64 C, .int .i64 0]]) ∧ IsInt w' s3 a3 n3 c3 Q ∧ IsInt w' s4 a4 n4 c4 R ∧ n3 ≤ K ∧ n4 ≤ K ∧ Ext w w' := by
  by_cases hy : z2 = 0
  · subst hy
    obtain ⟨g1, g2, g3⟩ := dv_zero z1
    obtain rfl : Q = 0 := by rw [← eQ, g1]
    obtain rfl : R = 0 := by rw [← eR, g2]
    obtain rfl : C = 4 := by rw [← eC, g3]
    exact (Div_zero s1 s2 a1 a2 n1 c1 n2 c2 w h2).mono fun e w' ⟨e1, e2⟩ => ⟨0, none, 0, 0, 0, none, 0, 0, e1, IsInt.small _ 0 (by omega) (by omega), IsInt.small _ 0 (by omega) (by omega), Nat.zero_le _, Nat.zero_le _, e2⟩
  · refine (Div_any s1 s2 a1 a2 n1 c1 n2 c2 z1 z2 w h1 h2 K hK hK1 hf1 hf2 hy).mono ?_
    rintro e w' ⟨s3, a3, n3, c3, s4, a4, n4, c4, q, r, rfl, Iq, Ir, hd, hx⟩
    obtain ⟨f1, f2, f3, f4⟩ := hd.facts
    obtain ⟨g1, g2, g3⟩ := dv_of hy f2.symm f4 (by omega)
    obtain rfl : C = 0 := by rw [← eC, g3]
    have k1 : Fit K q := Nat.lt_of_le_of_lt f1 hf1
    have k2 : Fit K r := Nat.lt_trans f3 hf2
    exact ⟨s3, a3, n3, c3, s4, a4, n4, c4, rfl, Iq.cast (g1.trans eQ), Ir.cast (g2.trans eR), Iq.len k1, Ir.len k2, hx⟩

theorem ZDiv_both (b1 b2 : Bool) (a1 a2 : Option Addr) (n1 c1 n2 c2 : Nat) (z1 z2 : Int) (w : World) (h1 : IsZ w b1 a1 n1 c1 z1) (h2 : IsZ w b2 a2 n2 c2 z2) (hn1 : n1 ≤ 300000) (hn2 : n2 ≤ 300000) (Q R C : Int) (eQ : dvq z1 z2 = Q) (eR : dvr z1 z2 = R) (eC : dvc z2 = C) :
    Calls Tryd.prog 8 #[.agg #[.bool b1, .slice a1 n1 c1], .agg #[.bool b2, .slice a2 n2 c2]] w fun e w' => ∃ (b3 : Bool) (a3 : Option Addr) (n3 c3 : Nat) (b4 : Bool) (a4 : Option Addr) (n4 c4 : Nat), e = .returned (.tuple #[.agg #[.bool b3, .slice a3 n3 c3], .agg #[.bool b4, .slice a4 n4 c4], .agg #[.int .i64 C, .int .i64 0]]) ∧ IsZ w' b3 a3 n3 c3 Q ∧ IsZ w' b4 a4 n4 c4 R ∧ n3 ≤ 400000 ∧ n4 ≤ 400000 ∧ Ext w w' := by
  by_cases hy : z2 = 0
  · subst hy
    obtain ⟨g1, g2, g3⟩ := dv_zero z1
    obtain rfl : Q = 0 := by rw [← eQ, g1]
    obtain rfl : R = 0 := by rw [← eR, g2]
    obtain rfl : C = 4 := by rw [← eC, g3]
    exact (ZDiv_zero b1 b2 a1 a2 n1 c1 n2 c2 w h2).mono fun e w' ⟨e1, e2⟩ => ⟨false, none, 0, 0, false, none, 0, 0, e1, IsZ.zero _, IsZ.zero _, Nat.zero_le _, Nat.zero_le _, e2⟩
  · refine (ZDiv_any b1 b2 a1 a2 n1 c1 n2 c2 z1 z2 w h1 h2 hn1 hn2 hy).mono ?_
    rintro e w' ⟨b3, a3, n3, c3, b4, a4, n4, c4, q, r, rfl, Iq, Ir, f2, f4, f3, l3, l4, hx⟩
    obtain ⟨g1, g2, g3⟩ := dv_of hy f2 f4 f3
    obtain rfl : C = 0 := by rw [← eC, g3]
    exact ⟨b3, a3, n3, c3, b4, a4, n4, c4, rfl, Iq.cast (g1.trans eQ), Ir.cast (g2.trans eR), by omega, by omega, hx⟩

/-- What is shifted has some two hundred words at most. -/
theorem up_room (n m N M x : Nat) (hx : x ≤ 2 ^ (4 * n)) (hN : N ≤ M) (h : 4 * n + M < 64 * m) : x * 2 ^ N < B64 ^ m := by
  have h1 : x * 2 ^ N ≤ 2 ^ (4 * n) * 2 ^ M := Nat.mul_le_mul hx (Nat.pow_le_pow_right (by decide) hN)
  refine Nat.lt_of_le_of_lt h1 ?_
  rw [B64_two, ← Nat.pow_add, ← Nat.pow_mul]
  exact Nat.pow_lt_pow_right (by decide) h
theorem down_room (n m x : Nat) (hx : x ≤ 2 ^ (4 * n)) (h : 4 * n < 64 * m) : x < B64 ^ m := by
  refine Nat.lt_of_le_of_lt hx ?_
  rw [B64_two, ← Nat.pow_mul]
  exact Nat.pow_lt_pow_right (by decide) h
theorem fit_up {z : Int} {N : Nat} (hz : z.natAbs < Lim) (hN : N ≤ 10000) : Fit 256 (z * ((2 ^ N : Nat) : Int)) := by
  unfold Fit
  rw [Int.natAbs_mul, Int.natAbs_natCast]
  exact up_room limN 256 N 10000 _ (Nat.le_trans (Nat.le_of_lt hz) lim_two) hN (by decide)
theorem fit_down {z : Int} {N : Nat} (hz : z.natAbs < Lim) : Fit 256 (z / ((2 ^ N : Nat) : Int)) := by
  unfold Fit
  have h0 : (z / ((2 ^ N : Nat) : Int)).natAbs ≤ z.natAbs := Int.natAbs_ediv_le_natAbs _ _
  exact down_room limN 256 _ (Nat.le_trans h0 (Nat.le_trans (Nat.le_of_lt hz) lim_two)) (by decide)

theorem Shift_all (sm : Int) (ao : Option Addr) (n c : Nat) (z k : Int) (w : World) (h : IsInt w sm ao n c z) (K : Nat) (hK : K ≤ 4194304) (hK1 : 1 ≤ K) (hf : Fit K z) (hz : z.natAbs < Lim) (hbr : Bru w) (V C : Int) (eV : shv z k = V) (eC : shc k = C) :
    Calls Tryd.prog 13 #[.agg #[.int .i64 sm, .slice ao n c], .int .i64 k] w fun e w' => ∃ (s' : Int) (a' : Option Addr) (n' c' : Nat), e = .returned (.tuple #[.agg #[.int .i64 s', .slice a' n' c'], .agg #[.int .i64 C, .int .i64 0]]) ∧ IsInt w' s' a' n' c' V ∧ n' ≤ 256 ∧ Ext w w' := by
  by_cases hb : k < -10000 ∨ 10000 < k
  · unfold shv at eV; unfold shc at eC
    rw [if_pos hb] at eV eC
    subst eV; subst eC
    exact (Shift_bad sm ao n c k w hb).mono fun e w' ⟨e1, e2⟩ => ⟨0, none, 0, 0, e1, IsInt.small _ 0 (by omega) (by omega), Nat.zero_le _, e2⟩
  · unfold shv at eV; unfold shc at eC
    rw [if_neg hb] at eV eC
    subst eC
    by_cases hp : 0 ≤ k
    · rw [if_pos hp] at eV
      obtain ⟨N, rfl⟩ : ∃ N : Nat, k = (N : Int) := ⟨k.toNat, by omega⟩
      rw [Int.toNat_natCast] at eV
      refine (Shift_up sm ao n c z N w h (by omega) K hK hf).mono ?_
      rintro e w' ⟨s', a', n', c', rfl, I, hx⟩
      have hl := I.len (fit_up hz (by omega))
      exact ⟨s', a', n', c', rfl, I.cast eV, hl, hx⟩
    · rw [if_neg hp] at eV
      obtain ⟨N, rfl⟩ : ∃ N : Nat, k = -(N : Int) := ⟨(-k).toNat, by omega⟩
      rw [show (- -(N : Int)).toNat = N from by omega] at eV
      refine (Shift_down sm ao n c z N w h (by omega) (by omega) K hK hK1 hf hbr).mono ?_
      rintro e w' ⟨s', a', n', c', rfl, I, hx⟩
      have hl := I.len (fit_down hz)
      exact ⟨s', a', n', c', rfl, I.cast eV, hl, hx⟩

theorem ZShift_all (b1 : Bool) (a1 : Option Addr) (n1 c1 : Nat) (z1 n : Int) (w : World) (h1 : IsZ w b1 a1 n1 c1 z1) (hn1 : n1 ≤ 300000) (hl : -9223372036854775808 ≤ n) (hh : n ≤ 9223372036854775807) (V C : Int) (eV : shv z1 n = V) (eC : shc n = C) :
    Calls Tryd.prog 14 #[.agg #[.bool b1, .slice a1 n1 c1], .int .i64 n] w fun e w' => ∃ (b' : Bool) (a' : Option Addr) (n' c' : Nat), e = .returned (.tuple #[.agg #[.bool b', .slice a' n' c'], .agg #[.int .i64 C, .int .i64 0]]) ∧ IsZ w' b' a' n' c' V ∧ n' ≤ 400000 ∧ Ext w w' := by
  subst eV; subst eC
  by_cases hnn : (n < -10000 ∨ 10000 < n) ∨ 0 ≤ n
  · exact ZShift_up b1 a1 n1 c1 z1 n w h1 hn1 hl hh hnn
  · have hb : ¬ (n < -10000 ∨ 10000 < n) := fun h => hnn (Or.inl h)
    have hp : ¬ 0 ≤ n := fun h => hnn (Or.inr h)
    unfold shv shc
    rw [if_neg hb, if_neg hb, if_neg hp]
    exact ZShift_down b1 a1 n1 c1 z1 n w h1 hn1 hb hp

end Go.Proofs.YtnemjllghpijgaaDoor
namespace Go.Proofs.YtnemjllghpijgaaDoor
open Go.RowKit

/-- A fault's variable is written anew: numbers stay. -/
theorem isInt_keepF {w : World} {g : Nat} {u v : Int} {sm : Int} {ao : Option Addr} {n c : Nat} {z : Int} (h : IsInt w sm ao n c z) (hf : FBx w g u v) (u' v' : Int) : IsInt ((w.setCell ⟨g, 0, none⟩ (.int .i64 u')).setCell ⟨g, 1, none⟩ (.int .i64 v')) sm ao n c z :=
  h.keep64 (Keep64.set2 (.i64 hf.c0) (.i64 hf.c1) (notW_i64 u') (.int .i64 v'))
theorem IsZ.keepF {w : World} {g : Nat} {u v : Int} {b : Bool} {ao : Option Addr} {n c : Nat} {z : Int} (h : IsZ w b ao n c z) (hf : FBx w g u v) (u' v' : Int) : IsZ ((w.setCell ⟨g, 0, none⟩ (.int .i64 u')).setCell ⟨g, 1, none⟩ (.int .i64 v')) b ao n c z :=
  h.box hf.row (by decide) (((Only.refl _ _).setCell _ _).setCell _ _)
theorem Box.put2 {w : World} {g k : Nat} {s : Int} {a : Option Addr} {n c : Nat} (h : Box w g s a n c) (hne : g ≠ k) (u v : Value) : Box ((w.setCell ⟨k, 0, none⟩ u).setCell ⟨k, 1, none⟩ v) g s a n c := (h.put hne u).put hne v
theorem FBx.put2 {w : World} {g k : Nat} {a b : Int} (h : FBx w g a b) (hne : g ≠ k) (u v : Value) : FBx ((w.setCell ⟨k, 0, none⟩ u).setCell ⟨k, 1, none⟩ v) g a b := (h.put hne u).put hne v

/-- What a law has read: four numbers and their faults, in variables. -/
structure Dv (W0 w : World) (A B C D : Nat) (s1 s2 : Int) (a1 a2 : Option Addr) (n1 c1 n2 c2 : Nat) (b3 b4 : Bool) (a3 a4 : Option Addr) (n3 c3 n4 c4 : Nat) (x y f f' rf rf' : Int) : Prop where
  bA : Box w A s1 a1 n1 c1
  bB : Box w B s2 a2 n2 c2
  bC : ZBx w C b3 a3 n3 c3
  bD : ZBx w D b4 a4 n4 c4
  fA : FBx w (A + 1) f f'
  fC : FBx w (C + 1) rf rf'
  IA : IsInt w s1 a1 n1 c1 x
  IB : IsInt w s2 a2 n2 c2 y
  IC : IsZ w b3 a3 n3 c3 x
  ID : IsZ w b4 a4 n4 c4 y
  E : Ext W0 w
  ne : W0.heap.size ≤ A ∧ A + 1 < B ∧ B + 1 < C ∧ C + 1 < D
section
variable {W0 w w' : World} {A B C D : Nat} {s1 s2 : Int} {a1 a2 : Option Addr} {n1 c1 n2 c2 : Nat} {b3 b4 : Bool} {a3 a4 : Option Addr} {n3 c3 n4 c4 : Nat} {x y f f' rf rf' : Int}
theorem Dv.ext (h : Dv W0 w A B C D s1 s2 a1 a2 n1 c1 n2 c2 b3 b4 a3 a4 n3 c3 n4 c4 x y f f' rf rf') (k : Ext w w') : Dv W0 w' A B C D s1 s2 a1 a2 n1 c1 n2 c2 b3 b4 a3 a4 n3 c3 n4 c4 x y f f' rf rf' :=
  ⟨h.bA.ext k, h.bB.ext k, h.bC.ext k, h.bD.ext k, h.fA.ext k, h.fC.ext k, h.IA.ext k, h.IB.ext k, h.IC.ext k, h.ID.ext k, h.E.trans k, h.ne⟩
theorem Dv.putF (h : Dv W0 w A B C D s1 s2 a1 a2 n1 c1 n2 c2 b3 b4 a3 a4 n3 c3 n4 c4 x y f f' rf rf') (u v : Int) : Dv W0 ((w.setCell ⟨A + 1, 0, none⟩ (.int .i64 u)).setCell ⟨A + 1, 1, none⟩ (.int .i64 v)) A B C D s1 s2 a1 a2 n1 c1 n2 c2 b3 b4 a3 a4 n3 c3 n4 c4 x y u v rf rf' := by
  have hn := h.ne
  exact ⟨h.bA.put2 (by omega) _ _, h.bB.put2 (by omega) _ _, h.bC.putR (by omega) _ _, h.bD.putR (by omega) _ _, h.fA.own u v, h.fC.put2 (by omega) _ _, isInt_keepF h.IA h.fA u v, isInt_keepF h.IB h.fA u v, h.IC.keepF h.fA u v, h.ID.keepF h.fA u v, h.E.put2 (g := A + 1) (o := 0) (o' := 1) (by omega) (.int .i64 u) (.int .i64 v), hn⟩
theorem Dv.putR (h : Dv W0 w A B C D s1 s2 a1 a2 n1 c1 n2 c2 b3 b4 a3 a4 n3 c3 n4 c4 x y f f' rf rf') (u v : Int) : Dv W0 ((w.setCell ⟨C + 1, 0, none⟩ (.int .i64 u)).setCell ⟨C + 1, 1, none⟩ (.int .i64 v)) A B C D s1 s2 a1 a2 n1 c1 n2 c2 b3 b4 a3 a4 n3 c3 n4 c4 x y f f' u v := by
  have hn := h.ne
  exact ⟨h.bA.put2 (by omega) _ _, h.bB.put2 (by omega) _ _, h.bC.putR (by omega) _ _, h.bD.putR (by omega) _ _, h.fA.put2 (by omega) _ _, h.fC.own u v, isInt_keepF h.IA h.fC u v, isInt_keepF h.IB h.fC u v, h.IC.keepF h.fC u v, h.ID.keepF h.fC u v, h.E.put2 (g := C + 1) (o := 0) (o' := 1) (by omega) (.int .i64 u) (.int .i64 v), hn⟩
end

set_option maxHeartbeats 8000000 in
set_option maxRecDepth 100000 in
theorem divides_walk (t1 t2 : ByteArray) (m : Int) (W : World) (ht1 : t1.size ≤ 9223372036854775807) (ht2 : t2.size ≤ 9223372036854775807) (hm1 : -9223372036854775808 ≤ m) (hm2 : m ≤ 9223372036854775807) (htab : Ten W) (hbr : Bru W) :
    Calls Tryd.prog 3 #[.string t1, .string t2, .int .i64 m] W fun e w' => e = .returned (.bool true) ∧ Ext W w' := by
  obtain ⟨K, Q, hK, hK1, hLQ, hKt, hmul, hfit⟩ := lim_room
  have Hp1 := hid (fun wx => Parse_any t1 wx ht1); have Hp2 := hid (fun wx => Parse_any t2 wx ht2)
  have Hz1 := hid (fun wx => ZParse_any t1 wx ht1); have Hz2 := hid (fun wx => ZParse_any t2 wx ht2)
  have hx := pz_lt (bs t1); have hy := pz_lt (bs t2)
  obtain ⟨x, ex⟩ : ∃ x, pz (bs t1) = x := ⟨_, rfl⟩
  obtain ⟨y, ey⟩ : ∃ y, pz (bs t2) = y := ⟨_, rfl⟩
  obtain ⟨p1, ep1⟩ : ∃ p1 : Int, ((pcode (bs t1) : Nat) : Int) = p1 := ⟨_, rfl⟩
  obtain ⟨p1', ep1'⟩ : ∃ p1' : Int, ((pat (bs t1) : Nat) : Int) = p1' := ⟨_, rfl⟩
  obtain ⟨p2, ep2⟩ : ∃ p2 : Int, ((pcode (bs t2) : Nat) : Int) = p2 := ⟨_, rfl⟩
  obtain ⟨p2', ep2'⟩ : ∃ p2' : Int, ((pat (bs t2) : Nat) : Int) = p2' := ⟨_, rfl⟩
  rw [ex] at hx Hp1 Hz1; rw [ey] at hy Hp2 Hz2
  rw [ep1, ep1'] at Hp1 Hz1; rw [ep2, ep2'] at Hp2 Hz2
  have Htab := hid htab; have Hbr := hid hbr; have Hx := hid hx
  have Fx := hid (hfit x (by omega)); have Fy := hid (hfit y (by omega))
  obtain ⟨qd, eq⟩ : ∃ qd, dvq x y = qd := ⟨_, rfl⟩
  obtain ⟨rd, er⟩ : ∃ rd, dvr x y = rd := ⟨_, rfl⟩
  obtain ⟨cd, ec⟩ : ∃ cd, dvc y = cd := ⟨_, rfl⟩
  obtain ⟨sv, es⟩ : ∃ sv, shv x m = sv := ⟨_, rfl⟩
  obtain ⟨sc, esc⟩ : ∃ sc, shc m = sc := ⟨_, rfl⟩
  obtain ⟨gz, eg⟩ : ∃ gz : Int, ((Nat.gcd x.natAbs y.natAbs : Nat) : Int) = gz := ⟨_, rfl⟩
  have Fg : Hid (Fit K gz) := by
    have f1 : Fit K x := Fx.out
    have f2 : Fit K y := Fy.out
    unfold Fit at f1 f2
    show gz.natAbs < _
    rw [← eg, Int.natAbs_natCast]
    by_cases h0 : x.natAbs = 0
    · rw [h0, Nat.gcd_zero_left]; exact f2
    · exact Nat.lt_of_le_of_lt (Nat.gcd_le_left _ (by omega)) f1
  have Eq := hid eq; have Er := hid er; have Ec := hid ec; have Es := hid es; have Esc := hid esc; have Eg := hid eg
  have hr1 : (p1 == p1) = true := by simp
  have hrc : (cd == cd) = true := by simp
  have hrs : (sc == sc) = true := by simp
  clear ex ey ep1 ep1' ep2 ep2' hx hy hmul hfit htab hbr hLQ eq er ec es esc eg
  go_enter Tryd.func3, Tryd.ntmps3
  go_wp2_with fail
  refine (Hp1.out _).mono ?_
  rintro e w1 ⟨s1, a1, n1, c1, rfl, hI1, hx1⟩
  have bA := box2_new w1 s1 a1 n1 c1 (.int .i64 p1) (.int .i64 p1')
  have fA := fbx2_new w1 (.cells #[.int .i64 s1, .slice a1 n1 c1] 24) p1 p1'
  have hq1 := hx1.trans (ext2_new w1 (.cells #[.int .i64 s1, .slice a1 n1 c1] 24) (.cells #[.int .i64 p1, .int .i64 p1'] 26))
  have I1 := hI1.ext (ext2_new w1 (.cells #[.int .i64 s1, .slice a1 n1 c1] 24) (.cells #[.int .i64 p1, .int .i64 p1'] 26))
  go_wp2_with fail
  have hzA : ((w1.alloc (.cells #[.int .i64 s1, .slice a1 n1 c1] 24)).alloc (.cells #[.int .i64 p1, .int .i64 p1'] 26)).heap.size = w1.heap.size + 1 + 1 := by simp
  generalize (w1.alloc (.cells #[.int .i64 s1, .slice a1 n1 c1] 24)).alloc (.cells #[.int .i64 p1, .int .i64 p1'] 26) = W1 at *
  have gA : W.heap.size ≤ w1.heap.size := hx1.size
  have zA : W1.heap.size = w1.heap.size + 1 + 1 := hzA
  generalize w1.heap.size = A at *
  refine (Hp2.out _).mono ?_
  rintro e w2 ⟨s2, a2, n2, c2, rfl, hI2, hx2⟩
  have bB := box2_new w2 s2 a2 n2 c2 (.int .i64 p2) (.int .i64 p2')
  have fB := fbx2_new w2 (.cells #[.int .i64 s2, .slice a2 n2 c2] 24) p2 p2'
  have hq2 := hx2.trans (ext2_new w2 (.cells #[.int .i64 s2, .slice a2 n2 c2] 24) (.cells #[.int .i64 p2, .int .i64 p2'] 26))
  have I2 := hI2.ext (ext2_new w2 (.cells #[.int .i64 s2, .slice a2 n2 c2] 24) (.cells #[.int .i64 p2, .int .i64 p2'] 26))
  go_wp2_with fail
  have hzB : ((w2.alloc (.cells #[.int .i64 s2, .slice a2 n2 c2] 24)).alloc (.cells #[.int .i64 p2, .int .i64 p2'] 26)).heap.size = w2.heap.size + 1 + 1 := by simp
  generalize (w2.alloc (.cells #[.int .i64 s2, .slice a2 n2 c2] 24)).alloc (.cells #[.int .i64 p2, .int .i64 p2'] 26) = W2 at *
  have gB : A + 1 < w2.heap.size := by have := hx2.size; omega
  have zB : W2.heap.size = w2.heap.size + 1 + 1 := hzB
  generalize w2.heap.size = B at *
  refine (Hz1.out _).mono ?_
  rintro e w3 ⟨b3, a3, n3, c3, rfl, hI3, hm3, hx3⟩
  have bC := zbx2_new w3 b3 a3 n3 c3 (.int .i64 p1) (.int .i64 p1')
  have fC := fbx2_new w3 (.cells #[.bool b3, .slice a3 n3 c3] 31) p1 p1'
  have hq3 := hx3.trans (ext2_new w3 (.cells #[.bool b3, .slice a3 n3 c3] 31) (.cells #[.int .i64 p1, .int .i64 p1'] 26))
  have I3 := hI3.ext (ext2_new w3 (.cells #[.bool b3, .slice a3 n3 c3] 31) (.cells #[.int .i64 p1, .int .i64 p1'] 26))
  go_wp2_with fail
  have hzC : ((w3.alloc (.cells #[.bool b3, .slice a3 n3 c3] 31)).alloc (.cells #[.int .i64 p1, .int .i64 p1'] 26)).heap.size = w3.heap.size + 1 + 1 := by simp
  generalize (w3.alloc (.cells #[.bool b3, .slice a3 n3 c3] 31)).alloc (.cells #[.int .i64 p1, .int .i64 p1'] 26) = W3 at *
  have gC : B + 1 < w3.heap.size := by have := hx3.size; omega
  have zC : W3.heap.size = w3.heap.size + 1 + 1 := hzC
  generalize w3.heap.size = C at *
  refine (Hz2.out _).mono ?_
  rintro e w4 ⟨b4, a4, n4, c4, rfl, hI4, hm4, hx4⟩
  have bD := zbx2_new w4 b4 a4 n4 c4 (.int .i64 p2) (.int .i64 p2')
  have fD := fbx2_new w4 (.cells #[.bool b4, .slice a4 n4 c4] 31) p2 p2'
  have hq4 := hx4.trans (ext2_new w4 (.cells #[.bool b4, .slice a4 n4 c4] 31) (.cells #[.int .i64 p2, .int .i64 p2'] 26))
  have I4 := hI4.ext (ext2_new w4 (.cells #[.bool b4, .slice a4 n4 c4] 31) (.cells #[.int .i64 p2, .int .i64 p2'] 26))
  go_wp2_with fail
  have hzD : ((w4.alloc (.cells #[.bool b4, .slice a4 n4 c4] 31)).alloc (.cells #[.int .i64 p2, .int .i64 p2'] 26)).heap.size = w4.heap.size + 1 + 1 := by simp
  generalize (w4.alloc (.cells #[.bool b4, .slice a4 n4 c4] 31)).alloc (.cells #[.int .i64 p2, .int .i64 p2'] 26) = W4 at *
  have gD : C + 1 < w4.heap.size := by have := hx4.size; omega
  have zD : W4.heap.size = w4.heap.size + 1 + 1 := hzD
  generalize w4.heap.size = D at *
  have bA := bA.ext (hq2.trans (hq3.trans hq4)); have fA := fA.ext (hq2.trans (hq3.trans hq4)); have IA := I1.ext (hq2.trans (hq3.trans hq4))
  have bB := bB.ext (hq3.trans hq4); have fB := fB.ext (hq3.trans hq4); have IB := I2.ext (hq3.trans hq4)
  have bC := bC.ext hq4; have fC := fC.ext hq4; have IC := I3.ext hq4; have ID := I4
  have HE4 := hid (hq1.trans (hq2.trans (hq3.trans hq4)))
  clear I1 I2 I3 I4 hI1 hI2 hI3 hI4 hq1 hq2 hq3 hq4 hx1 hx2 hx3 hx4 Hp1 Hp2 Hz1 Hz2
  refine (wholeBegun_any W4 (tab_ext Htab.out HE4.out)).mono ?_
  rintro e u0 ⟨rfl, hy0⟩
  have fA := fA.ext hy0; have fB := fB.ext hy0; have fC := fC.ext hy0; have fD := fD.ext hy0
  have D0 : Dv W u0 A B C D s1 s2 a1 a2 n1 c1 n2 c2 b3 b4 a3 a4 n3 c3 n4 c4 x y p1 p1' p1 p1' := ⟨bA.ext hy0, bB.ext hy0, bC.ext hy0, bD.ext hy0, fA, fC, IA.ext hy0, IB.ext hy0, IC.ext hy0, ID.ext hy0, HE4.out.trans hy0, ⟨gA, gB, gC, gD⟩⟩
  have HD0 := hid D0
  clear bA bB bC bD IA IB IC ID HE4 hy0 gA gB gC gD zA zB zC zD hzA hzB hzC hzD
  have g0 := fA.c0; have g1 := fA.c1; have g2 := fB.c0; have g3 := fB.c1; have g4 := fC.c0; have g5 := fC.c1; have g6 := fD.c0; have g7 := fD.c1
  have d0 := D0.bA.c0; have d1 := D0.bA.c1; have d2 := D0.bB.c0; have d3 := D0.bB.c1
  clear D0 fA fB fC fD
  go_wp2_with fail
  refine (Div_both s1 s2 a1 a2 n1 c1 n2 c2 x y u0 HD0.out.IA HD0.out.IB K hK hK1 Fx.out Fy.out qd rd cd Eq.out Er.out Ec.out).mono ?_
  rintro e u1 ⟨s5, a5, n5, c5, s6, a6, n6, c6, rfl, I5, I6, l5, l6, hy1⟩
  clear g0 g1 g2 g3 g4 g5 g6 g7 d0 d1 d2 d3
  have hq1 := (Ext.alloc u1 (.cells #[.int .i64 s5, .slice a5 n5 c5] 24)).then (.cells #[.int .i64 s6, .slice a6 n6 c6] 24)
  have bQ := (box_new u1 s5 a5 n5 c5).ext (Ext.alloc _ (.cells #[.int .i64 s6, .slice a6 n6 c6] 24))
  have bR := box_new (u1.alloc (.cells #[.int .i64 s5, .slice a5 n5 c5] 24)) s6 a6 n6 c6
  rw [show (u1.alloc (.cells #[.int .i64 s5, .slice a5 n5 c5] 24)).heap.size = u1.heap.size + 1 from by simp] at bR
  have D1 := HD0.out.ext (hy1.trans hq1)
  have g0 := D1.fA.c0; have g1 := D1.fA.c1; have h0 := D1.fA.f0 0; have h1 := D1.fA.f0 1
  have lu : D < u1.heap.size := (HD0.out.ext hy1).bD.lt
  have hn := D1.ne
  have D2 := D1.putF cd 0
  have HbQ := hid (bQ.put2 (k := A + 1) (by omega) (.int .i64 cd) (.int .i64 0)); have HbR := hid (bR.put2 (k := A + 1) (by omega) (.int .i64 cd) (.int .i64 0))
  have HIQ := hid (isInt_keepF (I5.ext hq1) D1.fA cd 0); have HIR := hid (isInt_keepF (I6.ext hq1) D1.fA cd 0)
  have HD2 := hid D2
  have e0 := D2.bC.c0; have e1 := D2.bC.c1; have e2 := D2.bD.c0; have e3 := D2.bD.c1
  have Hlu := hid lu; have Hn := hid hn
  clear D1 D2 bQ bR I5 I6 hq1 hy1 lu hn
  go_wp2_with fail
  generalize (((u1.alloc (.cells #[.int .i64 s5, .slice a5 n5 c5] 24)).alloc (.cells #[.int .i64 s6, .slice a6 n6 c6] 24)).setCell ⟨A + 1, 0, none⟩ (.int .i64 cd)).setCell ⟨A + 1, 1, none⟩ (.int .i64 0) = W5 at *
  generalize u1.heap.size = G at *
  clear g0 g1 h0 h1 HD0
  refine (ZDiv_both b3 b4 a3 a4 n3 c3 n4 c4 x y W5 HD2.out.IC HD2.out.ID (by omega) (by omega) qd rd cd Eq.out Er.out Ec.out).mono ?_
  rintro e u2 ⟨b7, a7, n7, c7, b8, a8, n8, c8, rfl, I7, I8, l7, l8, hy2⟩
  clear e0 e1 e2 e3
  have hq2 := (Ext.alloc u2 (.cells #[.bool b7, .slice a7 n7 c7] 31)).then (.cells #[.bool b8, .slice a8 n8 c8] 31)
  have bY := (zbx_new u2 b7 a7 n7 c7).ext (ext_alloc _ (.cells #[.bool b8, .slice a8 n8 c8] 31))
  have bZ := zbx_new (u2.alloc (.cells #[.bool b7, .slice a7 n7 c7] 31)) b8 a8 n8 c8
  rw [show (u2.alloc (.cells #[.bool b7, .slice a7 n7 c7] 31)).heap.size = u2.heap.size + 1 from by simp] at bZ
  have D3 := HD2.out.ext (hy2.trans hq2)
  have g0 := D3.fC.c0; have g1 := D3.fC.c1; have h0 := D3.fC.f0 0; have h1 := D3.fC.f0 1
  have lv : G + 1 < u2.heap.size := (HbR.out.ext hy2).lt
  have hn := Hn.out; have hlu := Hlu.out
  have D4 := D3.putR cd 0
  have bQ := ((HbQ.out.ext (hy2.trans hq2)).put2 (k := C + 1) (by omega) (.int .i64 cd) (.int .i64 0))
  have bR := ((HbR.out.ext (hy2.trans hq2)).put2 (k := C + 1) (by omega) (.int .i64 cd) (.int .i64 0))
  have bY := bY.putR (Rb := C + 1) (by omega) (.int .i64 cd) (.int .i64 0)
  have bZ := bZ.putR (Rb := C + 1) (by omega) (.int .i64 cd) (.int .i64 0)
  have HIQ := hid (isInt_keepF (HIQ.out.ext (hy2.trans hq2)) D3.fC cd 0); have HIR := hid (isInt_keepF (HIR.out.ext (hy2.trans hq2)) D3.fC cd 0)
  have HIY := hid ((I7.ext hq2).keepF D3.fC cd 0); have HIZ := hid ((I8.ext hq2).keepF D3.fC cd 0)
  have HbQ := hid bQ; have HbR := hid bR; have HbY := hid bY; have HbZ := hid bZ; have HD4 := hid D4
  clear D3 D4 bQ bR bY bZ I7 I8 hq2 hy2 lv hn hlu HD2 Hlu
  go_wp2_with fail
  generalize (((u2.alloc (.cells #[.bool b7, .slice a7 n7 c7] 31)).alloc (.cells #[.bool b8, .slice a8 n8 c8] 31)).setCell ⟨C + 1, 0, none⟩ (.int .i64 cd)).setCell ⟨C + 1, 1, none⟩ (.int .i64 0) = W6 at *
  generalize u2.heap.size = H at *
  clear g0 g1 h0 h1
  have h0d : Ext W6 W6.drew := Below.drew (Ext.refl _)
  have m0 := HD4.out.fA.c0; have m1 := HD4.out.fA.c1; have m2 := HD4.out.fC.c0; have m3 := HD4.out.fC.c1
  have m4 := HbQ.out.c0; have m5 := HbQ.out.c1; have m6 := HbR.out.c0; have m7 := HbR.out.c1
  have m8 := HbY.out.c0; have m9 := HbY.out.c1; have m10 := HbZ.out.c0; have m11 := HbZ.out.c1
  have m12 := HD4.out.bA.c0; have m13 := HD4.out.bA.c1; have m14 := HD4.out.bB.c0; have m15 := HD4.out.bB.c1
  have m16 := HD4.out.bC.c0; have m17 := HD4.out.bC.c1; have m18 := HD4.out.bD.c0; have m19 := HD4.out.bD.c1
  have lf := HD4.out.fA.lt; have lrf := HD4.out.fC.lt; have lQ := HbQ.out.lt; have lR := HbR.out.lt; have lY := HbY.out.lt; have lZ := HbZ.out.lt
  have lA := HD4.out.bA.lt; have lB := HD4.out.bB.lt; have lC := HD4.out.bC.lt; have lD := HD4.out.bD.lt
  have IA := HD4.out.IA; have IB := HD4.out.IB; have IC := HD4.out.IC; have ID := HD4.out.ID
  have IQ := HIQ.out; have IR := HIR.out; have IY := HIY.out; have IZ := HIZ.out
  have HE6 := hid HD4.out.E
  go_region_held3 (fun w' => w'.cell? ⟨A + 1, 0, none⟩ = some (.int .i64 cd) ∧ w'.cell? ⟨A + 1, 1, none⟩ = some (.int .i64 0) ∧ w'.cell? ⟨C + 1, 0, none⟩ = some (.int .i64 cd) ∧ w'.cell? ⟨C + 1, 1, none⟩ = some (.int .i64 0) ∧ w'.cell? ⟨G, 0, none⟩ = some (.int .i64 s5) ∧ w'.cell? ⟨G, 1, none⟩ = some (.slice a5 n5 c5) ∧ w'.cell? ⟨G + 1, 0, none⟩ = some (.int .i64 s6) ∧ w'.cell? ⟨G + 1, 1, none⟩ = some (.slice a6 n6 c6) ∧ w'.cell? ⟨H, 0, none⟩ = some (.bool b7) ∧ w'.cell? ⟨H, 1, none⟩ = some (.slice a7 n7 c7) ∧ w'.cell? ⟨H + 1, 0, none⟩ = some (.bool b8) ∧ w'.cell? ⟨H + 1, 1, none⟩ = some (.slice a8 n8 c8) ∧ w'.cell? ⟨A, 0, none⟩ = some (.int .i64 s1) ∧ w'.cell? ⟨A, 1, none⟩ = some (.slice a1 n1 c1) ∧ w'.cell? ⟨B, 0, none⟩ = some (.int .i64 s2) ∧ w'.cell? ⟨B, 1, none⟩ = some (.slice a2 n2 c2) ∧ w'.cell? ⟨C, 0, none⟩ = some (.bool b3) ∧ w'.cell? ⟨C, 1, none⟩ = some (.slice a3 n3 c3) ∧ w'.cell? ⟨D, 0, none⟩ = some (.bool b4) ∧ w'.cell? ⟨D, 1, none⟩ = some (.slice a4 n4 c4))
    (exact ⟨cellKeep (W := W6) (by assumption) lf m0, cellKeep (W := W6) (by assumption) lf m1, cellKeep (W := W6) (by assumption) lrf m2, cellKeep (W := W6) (by assumption) lrf m3, cellKeep (W := W6) (by assumption) lQ m4, cellKeep (W := W6) (by assumption) lQ m5, cellKeep (W := W6) (by assumption) lR m6, cellKeep (W := W6) (by assumption) lR m7, cellKeep (W := W6) (by assumption) lY m8, cellKeep (W := W6) (by assumption) lY m9, cellKeep (W := W6) (by assumption) lZ m10, cellKeep (W := W6) (by assumption) lZ m11, cellKeep (W := W6) (by assumption) lA m12, cellKeep (W := W6) (by assumption) lA m13, cellKeep (W := W6) (by assumption) lB m14, cellKeep (W := W6) (by assumption) lB m15, cellKeep (W := W6) (by assumption) lC m16, cellKeep (W := W6) (by assumption) lC m17, cellKeep (W := W6) (by assumption) lD m18, cellKeep (W := W6) (by assumption) lD m19⟩)
    (first
      | (have _ := qv6; go_at_call 10; refine (ZText_any sv6 ov6 mv6 jv6 gz v6 (Kv6.cast Eg.out) (by omega)).mono ?_; rintro e v7 ⟨rfl, qv7⟩; have hv7 : Ext W6 v7 := hv6.trans qv7)
      | (have _ := qv5; go_at_call 12; refine (ZGcd_any b3 b4 a3 a4 n3 c3 n4 c4 x y _ (IC.ext hv5) (ID.ext hv5) (by omega) (by omega)).mono ?_; rintro e v6 ⟨sv6, ov6, mv6, jv6, rfl, Kv6, Lv6, qv6⟩; have hv6 : Ext W6 v6 := hv5.trans qv6)
      | (have _ := qv4; go_at_call 9; refine (Text_any sv4 ov4 mv4 jv4 gz v4 (Kv4.cast Eg.out) (Nat.le_trans ((Kv4.cast Eg.out).len Fg.out) hKt) (tab_ext Htab.out (HE6.out.trans hv4))).mono ?_; rintro e v5 ⟨rfl, qv5⟩; have hv5 : Ext W6 v5 := hv4.trans qv5)
      | (have _ := qv3; go_at_call 11; refine (Gcd_all s1 s2 a1 a2 n1 c1 n2 c2 x y _ (IA.ext hv3) (IB.ext hv3) K hK hK1 Fx.out Fy.out (bru_ext Hbr.out (HE6.out.trans hv3))).mono ?_; rintro e v4 ⟨sv4, ov4, mv4, jv4, rfl, Kv4, qv4⟩; have hv4 : Ext W6 v4 := hv3.trans qv4)
      | (have _ := qv2; go_at_call 10; refine (ZText_any b8 a8 n8 c8 rd _ (IZ.ext hv2) (by omega)).mono ?_; rintro e v3 ⟨rfl, qv3⟩; have hv3 : Ext W6 v3 := hv2.trans qv3)
      | (have _ := qv1; go_at_call 9; refine (Text_any s6 a6 n6 c6 rd _ (IR.ext hv1) (by omega) (tab_ext Htab.out (HE6.out.trans hv1))).mono ?_; rintro e v2 ⟨rfl, qv2⟩; have hv2 : Ext W6 v2 := hv1.trans qv2)
      | (have _ := qv0; go_at_call 10; refine (ZText_any b7 a7 n7 c7 qd _ (IY.ext hv0) (by omega)).mono ?_; rintro e v1 ⟨rfl, qv1⟩; have hv1 : Ext W6 v1 := hv0.trans qv1)
      | (go_at_call 9; refine (Text_any s5 a5 n5 c5 qd _ (IQ.ext (by assumption)) (by omega) (tab_ext Htab.out (HE6.out.trans (by assumption)))).mono ?_; rintro e v0 ⟨rfl, qv0⟩; have hv0 : Ext W6 v0 := Ext.trans (by assumption) qv0))
  have D7 := HD4.out.ext hv7
  clear m0 m1 m2 m3 m4 m5 m6 m7 m8 m9 m10 m11 m12 m13 m14 m15 m16 m17 m18 m19 lf lrf lQ lR lY lZ lA lB lC lD IA IB IC ID IQ IR IY IZ HIQ HIR HIY HIZ HbQ HbR HbY HbZ HD4 HE6 h0d
  clear hv0 qv0 hv1 qv1 hv2 qv2 hv3 qv3 hv4 qv4 hv5 qv5 hv6 qv6 hv7 qv7 Kv4 Kv6 Lv6
  have d0 := D7.bA.c0; have d1 := D7.bA.c1
  have HD7 := hid D7
  clear D7
  go_wp2_with fail
  refine (Shift_all s1 a1 n1 c1 x m v7 HD7.out.IA K hK hK1 Fx.out Hx.out (bru_ext Hbr.out HD7.out.E) sv sc Es.out Esc.out).mono ?_
  rintro e u3 ⟨s9, a9, n9, c9, rfl, I9, l9, hy3⟩
  clear d0 d1
  have hq3 := Ext.alloc u3 (.cells #[.int .i64 s9, .slice a9 n9 c9] 24)
  have bS := box_new u3 s9 a9 n9 c9
  have D8 := HD7.out.ext (hy3.trans hq3)
  have g0 := D8.fA.c0; have g1 := D8.fA.c1; have h0 := D8.fA.f0 0; have h1 := D8.fA.f0 1
  have hlu : D < u3.heap.size := (HD7.out.ext hy3).bD.lt
  have hn := D8.ne
  have D9 := D8.putF sc 0
  have HbS := hid (bS.put2 (k := A + 1) (by omega) (.int .i64 sc) (.int .i64 0))
  have HIS := hid (isInt_keepF (I9.ext hq3) D8.fA sc 0)
  have e0 := D9.bC.c0; have e1 := D9.bC.c1
  have HD9 := hid D9; have Hlu := hid hlu; have Hn := hid hn
  clear D8 D9 bS I9 hq3 hy3 hlu hn
  go_wp2_with fail
  generalize ((u3.alloc (.cells #[.int .i64 s9, .slice a9 n9 c9] 24)).setCell ⟨A + 1, 0, none⟩ (.int .i64 sc)).setCell ⟨A + 1, 1, none⟩ (.int .i64 0) = W7 at *
  generalize u3.heap.size = G3 at *
  clear g0 g1 h0 h1 HD7
  refine (ZShift_all b3 a3 n3 c3 x m W7 HD9.out.IC (by omega) hm1 hm2 sv sc Es.out Esc.out).mono ?_
  rintro e u4 ⟨b10, a10, n10, c10, rfl, I10, l10, hy4⟩
  clear e0 e1
  have hq4 := ext_alloc u4 (.cells #[.bool b10, .slice a10 n10 c10] 31)
  have bT := zbx_new u4 b10 a10 n10 c10
  have D10 := HD9.out.ext (hy4.trans hq4)
  have g0 := D10.fC.c0; have g1 := D10.fC.c1; have h0 := D10.fC.f0 0; have h1 := D10.fC.f0 1
  have lv : G3 < u4.heap.size := (HbS.out.ext hy4).lt
  have hn := Hn.out; have hlu := Hlu.out
  have HD11 := hid (D10.putR sc 0)
  have HbS := hid ((HbS.out.ext (hy4.trans hq4)).put2 (k := C + 1) (by omega) (.int .i64 sc) (.int .i64 0))
  have HbT := hid (bT.putR (Rb := C + 1) (by omega) (.int .i64 sc) (.int .i64 0))
  have HIS := hid (isInt_keepF (HIS.out.ext (hy4.trans hq4)) D10.fC sc 0); have HIT := hid ((I10.ext hq4).keepF D10.fC sc 0)
  clear D10 bT I10 hq4 hy4 lv hn hlu HD9 Hlu
  go_wp2_with fail
  generalize ((u4.alloc (.cells #[.bool b10, .slice a10 n10 c10] 31)).setCell ⟨C + 1, 0, none⟩ (.int .i64 sc)).setCell ⟨C + 1, 1, none⟩ (.int .i64 0) = W8 at *
  generalize u4.heap.size = H4 at *
  clear g0 g1 h0 h1
  have h0d : Ext W8 W8.drew := Below.drew (Ext.refl _)
  have m0 := HD11.out.fA.c0; have m1 := HD11.out.fA.c1; have m2 := HD11.out.fC.c0; have m3 := HD11.out.fC.c1
  have m4 := HbS.out.c0; have m5 := HbS.out.c1; have m6 := HbT.out.c0; have m7 := HbT.out.c1
  have lf := HD11.out.fA.lt; have lrf := HD11.out.fC.lt; have lS := HbS.out.lt; have lT := HbT.out.lt
  have IS := HIS.out; have IT := HIT.out
  have HE8 := hid HD11.out.E
  go_region_held3 (fun w' => w'.cell? ⟨A + 1, 0, none⟩ = some (.int .i64 sc) ∧ w'.cell? ⟨A + 1, 1, none⟩ = some (.int .i64 0) ∧ w'.cell? ⟨C + 1, 0, none⟩ = some (.int .i64 sc) ∧ w'.cell? ⟨C + 1, 1, none⟩ = some (.int .i64 0) ∧ w'.cell? ⟨G3, 0, none⟩ = some (.int .i64 s9) ∧ w'.cell? ⟨G3, 1, none⟩ = some (.slice a9 n9 c9) ∧ w'.cell? ⟨H4, 0, none⟩ = some (.bool b10) ∧ w'.cell? ⟨H4, 1, none⟩ = some (.slice a10 n10 c10))
    (exact ⟨cellKeep (W := W8) (by assumption) lf m0, cellKeep (W := W8) (by assumption) lf m1, cellKeep (W := W8) (by assumption) lrf m2, cellKeep (W := W8) (by assumption) lrf m3, cellKeep (W := W8) (by assumption) lS m4, cellKeep (W := W8) (by assumption) lS m5, cellKeep (W := W8) (by assumption) lT m6, cellKeep (W := W8) (by assumption) lT m7⟩)
    (first
      | (have _ := qr0; go_at_call 10; refine (ZText_any b10 a10 n10 c10 sv _ (IT.ext hr0) (by omega)).mono ?_; rintro e r1 ⟨rfl, qr1⟩; have hr1' : Ext W8 r1 := hr0.trans qr1)
      | (go_at_call 9; refine (Text_any s9 a9 n9 c9 sv _ (IS.ext (by assumption)) (by omega) (tab_ext Htab.out (HE8.out.trans (by assumption)))).mono ?_; rintro e r0 ⟨rfl, qr0⟩; have hr0 : Ext W8 r0 := Ext.trans (by assumption) qr0))
  go_wp2_with fail
  go_ret
  exact ⟨rfl, HE8.out.trans hr1'⟩

end Go.Proofs.YtnemjllghpijgaaDoor
