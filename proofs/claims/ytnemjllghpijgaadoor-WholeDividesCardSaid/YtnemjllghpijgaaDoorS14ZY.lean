/-
  The reference's numbers: ZPow2. The reference's numbers: ZShift, where it does not divide.
-/
import Derived.Test.YtnemjllghpijgaaDoorProg
import Derived.Test.YtnemjllghpijgaaDoorRows
import Derived.BigQuiet
import Derived.BigRegion
import Derived.Deep.AppendLies
import Derived.Deep.Cut
import Derived.Deep.QuietTactic
import Derived.Deep.RegionHeld3
import Derived.Laws.Bits64b
import Derived.Laws.CopyOwn
import Derived.Laws.ResultCell
import Derived.Lib.BitFns
import Derived.Lib.Hide
import Derived.Lib.ItoaNum
import Derived.Lib.Strings
import Derived.Lib.TrailingZeros
import Derived.OwnWalk
import Derived.Shelf.Bits.Mul64
import Derived.Shelf.LaysM
import Derived.Shelf.Small.Bits
import Derived.Shelf.Small.Wraps
import Derived.Shelf.Spec.BitsCarry
import Derived.Shelf.Spec.TrailingZeros
import Derived.Shelf.Strconv.Itoa0
import Derived.Shelf.Strconv.Itoa1
import Derived.Shelf.Strconv.Itoa2
import Derived.Shelf.Strconv.Itoa3
import Derived.WalkKit
import Derived.WalkLawsBesides
import Derived.WalkSpells
import Derived.Test.YtnemjllghpijgaaDoorS00Mem
import Derived.Test.YtnemjllghpijgaaDoorShelf
import Derived.Test.YtnemjllghpijgaaDoorS02ShiftI
import Derived.Test.YtnemjllghpijgaaDoorS03GuessD
import Derived.Test.YtnemjllghpijgaaDoorS04IntB
import Derived.Test.YtnemjllghpijgaaDoorS05IntD
import Derived.Test.YtnemjllghpijgaaDoorS06ParE
import Derived.Test.YtnemjllghpijgaaDoorS09ZA
import Derived.Test.YtnemjllghpijgaaDoorS10ZJ
import Derived.Test.YtnemjllghpijgaaDoorS11ZK
import Derived.Test.YtnemjllghpijgaaDoorS12ZU
import Derived.Test.YtnemjllghpijgaaDoorS13ZW
namespace Go.Proofs.YtnemjllghpijgaaDoor
open Go.RowKit

theorem pow2_len (e : Nat) : (((2 ^ e : Nat) : Int)).natAbs < 10000 ^ (e + 1) := by
  rw [Int.natAbs_natCast]
  have h1 : 2 ^ e ≤ 10000 ^ e := Nat.pow_le_pow_left (by decide) e
  have h2 : 10000 ^ e < 10000 ^ (e + 1) := Nat.pow_lt_pow_right (by decide) (by omega)
  omega
theorem pow2_mul (s e : Nat) : ((2 ^ s : Nat) : Int) * ((2 ^ e : Nat) : Int) = ((2 ^ (s + e) : Nat) : Int) := by rw [← Int.natCast_mul, ← Nat.pow_add]

theorem ZBx.far {wr : World} {Rb Zb : Nat} {b : Bool} {a : Option Addr} {n c : Nat} (hz : ZBx wr Zb b a n c) (hne : Zb ≠ Rb) (u v : Value) : ZBx ((wr.setCell ⟨Rb, 0, none⟩ u).setCell ⟨Rb, 1, none⟩ v) Zb b a n c := by
  have hO : Only Rb wr ((wr.setCell ⟨Rb, 0, none⟩ u).setCell ⟨Rb, 1, none⟩ v) := ((Only.refl _ _).setCell _ _).setCell _ _
  exact ⟨(hO.block _ hne).trans hz.row⟩
theorem ZRes.far {wr : World} {Rb g : Nat} (hz : ZRes wr g) (hne : g ≠ Rb) (u v : Value) : ZRes ((wr.setCell ⟨Rb, 0, none⟩ u).setCell ⟨Rb, 1, none⟩ v) g := by
  have hO : Only Rb wr ((wr.setCell ⟨Rb, 0, none⟩ u).setCell ⟨Rb, 1, none⟩ v) := ((Only.refl _ _).setCell _ _).setCell _ _
  exact ⟨(hO.block _ hne).trans hz.row⟩

set_option maxHeartbeats 2000000 in
set_option maxRecDepth 100000 in
theorem ZPow2_any (N : Nat) (hN : N ≤ 10000) (w : World) :
    Calls Tryd.prog 41 #[.int .i64 (N : Int)] w (ZRet w ((2 ^ N : Nat) : Int) 10001) := by
  have hE0 := ext_alloc w (.cells #[.bool false, .slice none 0 0] 31)
  have hR0 := zres_new w
  go_enter Tryd.func41, Tryd.ntmps41
  go_wp2_with fail
  generalize w.alloc (.cells #[.bool false, .slice none 0 0] 31) = W0 at *
  refine (ZOf_any 1 (by decide) (by decide) W0).mono ?_
  rintro e w1 ⟨b1, a1, n1, c1, rfl, hI1, hn1, hx1⟩
  have hE1 := ext_alloc w1 (.cells #[.bool b1, .slice a1 n1 c1] 31)
  have bO := zbx_new w1 b1 a1 n1 c1
  have Iow := hI1.ext hE1
  have hR1 := hR0.ext (hx1.trans hE1)
  have hEw := hE0.trans (hx1.trans hE1)
  have l1 : w.heap.size < w1.heap.size := (hR0.ext hx1).lt
  go_wp2_with fail
  generalize w1.alloc (.cells #[.bool b1, .slice a1 n1 c1] 31) = W1 at *
  generalize w1.heap.size = O at *
  refine (ZOf_any 2 (by decide) (by decide) W1).mono ?_
  rintro e w2 ⟨b2, a2, n2, c2, rfl, hI2, hn2, hx2⟩
  have hE2 := ext_alloc w2 (.cells #[.bool b2, .slice a2 n2 c2] 31)
  have bY := zbx_new w2 b2 a2 n2 c2
  have IY := hI2.ext hE2
  have IO2 := Iow.ext (hx2.trans hE2); have bO2 := bO.ext (hx2.trans hE2); have hR2 := hR1.ext (hx2.trans hE2)
  have hEw2 := hEw.trans (hx2.trans hE2)
  have l2 : O < w2.heap.size := (bO.ext hx2).lt
  go_wp2_with fail
  generalize w2.alloc (.cells #[.bool b2, .slice a2 n2 c2] 31) = W2 at *
  generalize w2.heap.size = Y at *
  have Hl : Hid (w.heap.size < O ∧ O < Y) := ⟨l1, l2⟩
  clear l1 l2 hE0 hR0 hI1 hn1 hx1 hE1 bO Iow hR1 hEw hI2 hn2 hx2 hE2
  go_loopw [0] (fun nv wr => ∃ (k s e : Nat) (b : Bool) (a : Option Addr) (n c : Nat) (b' : Bool) (a' : Option Addr) (n' c' : Nat), nv = .int .i64 k ∧ k ≤ N ∧ s + e * k = N ∧ e ≤ 20000 ∧ ZBx wr O b a n c ∧ IsZ wr b a n c ((2 ^ s : Nat) : Int) ∧ ZBx wr Y b' a' n' c' ∧ IsZ wr b' a' n' c' ((2 ^ e : Nat) : Int) ∧ ZRes wr w.heap.size ∧ Ext w wr) (fun nv _ => (intOf nv).toNat)
  case atStart => exact ⟨N, 0, 1, b1, a1, n1, c1, b2, a2, n2, c2, rfl, Nat.le_refl _, by omega, by omega, bO2, IO2, bY, IY, hR2, hEw2⟩
  case round =>
    clear bO2 IO2 bY IY hR2 hEw2
    obtain ⟨k, s, e, b, a, n, c, b', a', n', c', rfl, hk, hse, he, hO, iO, hY, iY, hR, hE⟩ := hrel
    have HO := Lib.hid hO; have HIO := Lib.hid iO; have HY := Lib.hid hY; have HIY := Lib.hid iY; have HR := Lib.hid hR; have HE := Lib.hid hE; have Hse := Lib.hid hse
    have d0 := hO.c0; have d1 := hO.c1; have d2 := hY.c0; have d3 := hY.c1
    have hns := iO.len_of (pow2_len s); have hne := iY.len_of (pow2_len e)
    by_cases hk0 : 0 < k
    · have ik : (0 : Int) < (k : Int) := by omega
      have hee : e ≤ N := by
        have h1 : e * 1 ≤ e * k := Nat.mul_le_mul_left _ hk0
        omega
      have hsN : s ≤ N := by omega
      obtain ⟨h, hh⟩ : ∃ h, k / 2 = h := ⟨_, rfl⟩
      have t1 : (k : Int).tdiv 2 = (h : Int) := by rw [Int.tdiv_eq_ediv_of_nonneg (by omega)]; omega
      by_cases hod : k % 2 = 1
      · have t2 : (k : Int).tmod 2 = 1 := by rw [Int.tmod_eq_emod_of_nonneg (by omega)]; omega
        have Hnew : Hid ((s + e) + (e + e) * h = N) := by
          show _ = _
          have e1 : k = 2 * h + 1 := by omega
          rw [← Hse.out, e1, Nat.mul_add, Nat.mul_one, Nat.add_mul]
          have e2 : e * (2 * h) = e * h + e * h := by rw [← Nat.mul_add]; congr 1; omega
          omega
        have hhk : h < k := by omega
        clear hse hO iO hY iY hR hE hh hod
        go_wp2_with fail
        refine (ZMul_any b b' a a' n c n' c' ((2 ^ s : Nat) : Int) ((2 ^ e : Nat) : Int) wr HIO.out HIY.out (by omega) (by omega)).mono ?_
        rintro er w5 ⟨b5, a5, n5, c5, rfl, hI5, hn5, hx5⟩
        have O5 := HO.out.ext hx5; have Y5 := HY.out.ext hx5
        have u0 := O5.c0; have u1 := O5.c1; have f0 := O5.f 0; have f1 := O5.f 1
        have Y6 := Y5.far (Rb := O) (by have := Hl.out; omega) (.bool b5) (.slice a5 n5 c5)
        have O6 := O5.own b5 a5 n5 c5
        have I6 := (hI5.cast (pow2_mul s e)).keepRes O5.row (.bool b5) (.slice a5 n5 c5)
        have J6 := (HIY.out.ext hx5).keepRes O5.row (.bool b5) (.slice a5 n5 c5)
        have R6 := (HR.out.ext hx5).far (Rb := O) (by have := Hl.out; omega) (.bool b5) (.slice a5 n5 c5)
        have HE6 := Lib.hid (zput2 (HE.out.trans hx5) (by have := Hl.out; omega) (g := O) (.bool b5) (.slice a5 n5 c5))
        have v0 := Y6.c0; have v1 := Y6.c1
        go_wp2_with fail
        generalize (w5.setCell ⟨O, 0, none⟩ (.bool b5)).setCell ⟨O, 1, none⟩ (.slice a5 n5 c5) = W6 at *
        clear u0 u1 f0 f1
        refine (ZMul_any b' b' a' a' n' c' n' c' ((2 ^ e : Nat) : Int) ((2 ^ e : Nat) : Int) W6 J6 J6 (by omega) (by omega)).mono ?_
        rintro er w7 ⟨b7, a7, n7, c7, rfl, hI7, hn7, hx7⟩
        have Y7 := Y6.ext hx7
        have u0 := Y7.c0; have u1 := Y7.c1; have f0 := Y7.f 0; have f1 := Y7.f 1
        go_wp2_with fail
        go_roundw
        case rel => exact ⟨h, s + e, e + e, b5, a5, n5, c5, b7, a7, n7, c7, by go_num, by omega, Hnew.out, by omega, (O6.ext hx7).far (by have := Hl.out; omega) _ _, (I6.ext hx7).keepRes Y7.row _ _, Y7.own _ _ _ _, (hI7.cast (pow2_mul e e)).keepRes Y7.row _ _, (R6.ext hx7).far (by have := Hl.out; omega) _ _, zput2 (HE6.out.trans hx7) (by have := Hl.out; omega) _ _⟩
        case measure => simp [intOf]; omega
      · have t2 : (k : Int).tmod 2 = 0 := by rw [Int.tmod_eq_emod_of_nonneg (by omega)]; omega
        have Hnew : Hid (s + (e + e) * h = N) := by
          show _ = _
          have e1 : k = 2 * h := by omega
          rw [← Hse.out, e1, Nat.add_mul]
          have e2 : e * (2 * h) = e * h + e * h := by rw [← Nat.mul_add]; congr 1; omega
          omega
        have hhk : h < k := by omega
        clear hse hO iO hY iY hR hE hh hod
        go_wp2_with fail
        refine (ZMul_any b' b' a' a' n' c' n' c' ((2 ^ e : Nat) : Int) ((2 ^ e : Nat) : Int) wr HIY.out HIY.out (by omega) (by omega)).mono ?_
        rintro er w7 ⟨b7, a7, n7, c7, rfl, hI7, hn7, hx7⟩
        have Y7 := HY.out.ext hx7
        have u0 := Y7.c0; have u1 := Y7.c1; have f0 := Y7.f 0; have f1 := Y7.f 1
        go_wp2_with fail
        go_roundw
        case rel => exact ⟨h, s, e + e, b, a, n, c, b7, a7, n7, c7, by go_num, by omega, Hnew.out, by omega, (HO.out.ext hx7).far (by have := Hl.out; omega) _ _, (HIO.out.ext hx7).keepRes Y7.row _ _, Y7.own _ _ _ _, (hI7.cast (pow2_mul e e)).keepRes Y7.row _ _, (HR.out.ext hx7).far (by have := Hl.out; omega) _ _, zput2 (HE.out.trans hx7) (by have := Hl.out; omega) _ _⟩
        case measure => simp [intOf]; omega
    · obtain rfl : k = 0 := by omega
      have hsN : s = N := by omega
      have HsN := Lib.hid hsN
      have k0 := hR.c0; have k1 := hR.c1; have f0 := hR.f 0; have f1 := hR.f 1
      have hnn : n ≤ 10001 := by omega
      clear hse hO iO hY iY hR hE hsN
      go_wp2_with fail
      exact bodyPost_ret (v := .agg #[.bool b, .slice a n c]) (by simp [results, Tryd.results41, go_sem, k0, k1]) rfl ⟨b, a, n, c, rfl, (HIO.out.cast (by rw [HsN.out])).keepRes HR.out.row _ _, hnn, zput2 HE.out (Nat.le_refl _) _ _⟩

end Go.Proofs.YtnemjllghpijgaaDoor
namespace Go.Proofs.YtnemjllghpijgaaDoor
open Go.RowKit

/-- What a shift answers: the number, the fault's code. -/
def shv (z n : Int) : Int := if n < -10000 ∨ 10000 < n then 0 else if 0 ≤ n then z * ((2 ^ n.toNat : Nat) : Int) else z / ((2 ^ (-n).toNat : Nat) : Int)
def shc (n : Int) : Int := if n < -10000 ∨ 10000 < n then 5 else 0

/-- A quotient with its rest is Lean's own. -/
theorem div_of {z q r : Int} {P : Nat} (hP : 0 < P) (h : z = q * (P : Int) + r) (h0 : 0 ≤ r) (h1 : r < ((P : Int)).natAbs) : z / (P : Int) = q := by
  have h2 : ((P : Int)).natAbs = P := Int.natAbs_natCast P
  rw [h2] at h1
  exact ((Int.ediv_emod_unique (by omega)).2 ⟨by rw [h, Int.mul_comm]; omega, h0, h1⟩).1

theorem zf_new (w : World) (o1 o2 : Obj) : ((w.alloc o1).alloc o2 |>.alloc (.cells #[.int .i64 0, .int .i64 0] 26)).heap[w.heap.size + 1 + 1]? = some (.cells #[.int .i64 0, .int .i64 0] 26 (0, 0)) := by
  have h := heap_alloc_new ((w.alloc o1).alloc o2) (.cells #[.int .i64 0, .int .i64 0] 26)
  rw [show ((w.alloc o1).alloc o2).heap.size = w.heap.size + 1 + 1 from by simp] at h
  exact h

set_option maxHeartbeats 2000000 in
set_option maxRecDepth 100000 in
theorem ZShift_up (b1 : Bool) (a1 : Option Addr) (n1 c1 : Nat) (z1 n : Int) (w : World) (h1 : IsZ w b1 a1 n1 c1 z1) (hn1 : n1 ≤ 300000) (hl : -9223372036854775808 ≤ n) (hh : n ≤ 9223372036854775807) (hnn : (n < -10000 ∨ 10000 < n) ∨ 0 ≤ n) :
    Calls Tryd.prog 14 #[.agg #[.bool b1, .slice a1 n1 c1], .int .i64 n] w fun e w' => ∃ (b' : Bool) (a' : Option Addr) (n' c' : Nat), e = .returned (.tuple #[.agg #[.bool b', .slice a' n' c'], .agg #[.int .i64 (shc n), .int .i64 0]]) ∧ IsZ w' b' a' n' c' (shv z1 n) ∧ n' ≤ 400000 ∧ Ext w w' := by
  suffices hmain : Calls Tryd.prog 14 #[.agg #[.bool b1, .slice a1 n1 c1], .int .i64 n] w fun e w' => ∃ v1 v2 : Value, e = .returned (.tuple #[v1, v2]) ∧ v2 = .agg #[.int .i64 (shc n), .int .i64 0] ∧ ZRet w (shv z1 n) 400000 (.returned v1) w' by
    refine hmain.mono ?_
    rintro e w' ⟨v1, v2, rfl, rfl, b', a', n', c', h1, h2, h3, h4⟩
    cases h1
    exact ⟨b', a', n', c', rfl, h2, h3, h4⟩
  have hE := ((ext_alloc w (.cells #[.bool b1, .slice a1 n1 c1] 31)).trans (ext_alloc _ (.cells #[.bool false, .slice none 0 0] 31))).trans (ext_alloc _ (.cells #[.int .i64 0, .int .i64 0] 26))
  have bA := ((zbx_new w b1 a1 n1 c1).ext (ext_alloc _ (.cells #[.bool false, .slice none 0 0] 31))).ext (ext_alloc _ (.cells #[.int .i64 0, .int .i64 0] 26))
  have hR := (zres_new (w.alloc (.cells #[.bool b1, .slice a1 n1 c1] 31))).ext (ext_alloc _ (.cells #[.int .i64 0, .int .i64 0] 26))
  rw [show (w.alloc (.cells #[.bool b1, .slice a1 n1 c1] 31)).heap.size = w.heap.size + 1 from by simp] at hR
  have hF := zf_new w (.cells #[.bool b1, .slice a1 n1 c1] 31) (.cells #[.bool false, .slice none 0 0] 31)
  have x0 := bA.c0; have x1 := bA.c1
  have H1 := Lib.hid h1
  clear h1
  by_cases hbad : n < -10000 ∨ 10000 < n
  · have Hv : Hid (shv z1 n = 0 ∧ shc n = 5) := ⟨by unfold shv; rw [if_pos hbad], by unfold shc; rw [if_pos hbad]⟩
    rw [Hv.out.1, Hv.out.2]
    clear bA hR hF x0 x1
    rcases hbad with hb | hb
    · go_enter Tryd.func14, Tryd.ntmps14
      go_wp2_with fail
      exact bodyPost_ret (v := .tuple #[.agg #[.bool false, .slice none 0 0], .agg #[.int .i64 5, .int .i64 0]]) (by simp [results, Tryd.results14, go_sem]) rfl ⟨_, _, rfl, rfl, false, none, 0, 0, rfl, IsZ.zero _, by omega, ((ext_alloc _ _).trans (ext_alloc _ _)).trans (ext_alloc _ _)⟩
    · have hb' : ¬ n < -10000 := by omega
      go_enter Tryd.func14, Tryd.ntmps14
      go_wp2_with fail
      exact bodyPost_ret (v := .tuple #[.agg #[.bool false, .slice none 0 0], .agg #[.int .i64 5, .int .i64 0]]) (by simp [results, Tryd.results14, go_sem]) rfl ⟨_, _, rfl, rfl, false, none, 0, 0, rfl, IsZ.zero _, by omega, ((ext_alloc _ _).trans (ext_alloc _ _)).trans (ext_alloc _ _)⟩
  · have hb1 : ¬ n < -10000 := fun h => hbad (Or.inl h)
    have hb2 : ¬ 10000 < n := fun h => hbad (Or.inr h)
    have Hc : Hid (shc n = 0) := by show _ = _; unfold shc; rw [if_neg hbad]
    rw [Hc.out]
    by_cases hpos : 0 ≤ n
    · obtain ⟨N, rfl⟩ : ∃ N : Nat, n = (N : Int) := ⟨n.toNat, by omega⟩
      have Hv : Hid (shv z1 (N : Int) = z1 * ((2 ^ N : Nat) : Int)) := by show _ = _; unfold shv; rw [if_neg hbad, if_pos hpos]; simp
      rw [Hv.out]
      have HP := Lib.hid (fun wx => ZPow2_any N (by omega) wx)
      clear hbad hl hh
      go_enter Tryd.func14, Tryd.ntmps14
      go_wp2_with fail
      generalize ((w.alloc (.cells #[.bool b1, .slice a1 n1 c1] 31)).alloc (.cells #[.bool false, .slice none 0 0] 31)).alloc (.cells #[.int .i64 0, .int .i64 0] 26) = W0 at *
      have lA := bA.lt
      have lF : w.heap.size + 1 + 1 < W0.heap.size := (Array.getElem?_eq_some_iff.1 hF).1
      have h0d : Ext W0 W0.drew := Below.drew (Ext.refl _)
      go_region_held3 (fun w' => w'.cell? ⟨w.heap.size, 0, none⟩ = some (.bool b1) ∧ w'.cell? ⟨w.heap.size, 1, none⟩ = some (.slice a1 n1 c1))
        (refine ⟨?_, ?_⟩ <;> (repeat (refine zPut (by omega) ?_)) <;> exact zKeep (W := W0) (by assumption) lA (by assumption))
        (first
          | (have _ := qv0; go_at_call 30; refine (ZMul_any b1 sv0 a1 ov0 n1 c1 mv0 jv0 z1 ((2 ^ N : Nat) : Int) v0 (H1.out.ext (hE.trans hv0)) Kv0 (by omega) (by omega)).mono ?_; rintro e v1 ⟨sv1, ov1, mv1, jv1, rfl, Kv1, Lv1, qv1⟩; have hv1 : Ext W0 v1 := hv0.trans qv1; have R1 := hR.ext hv1; have k0 := R1.c0; have k1 := R1.c1; have f0 := R1.f 0; have f1 := R1.f 1; have F1 := (hv1.block _ lF).trans hF; have k2 := fcell0 F1; have k3 := fcell1 F1; have f2 := ffroz 0 F1; have f3 := ffroz 1 F1)
          | (go_at_call 41; refine (HP.out _).mono ?_; rintro e v0 ⟨sv0, ov0, mv0, jv0, rfl, Kv0, Lv0, qv0⟩; have hv0 : Ext W0 v0 := Ext.trans (by assumption) qv0))
      go_wp2_with fail
      have hO : Only (w.heap.size + 1) v1 ((v1.setCell ⟨w.heap.size + 1, 0, none⟩ (.bool sv1)).setCell ⟨w.heap.size + 1, 1, none⟩ (.slice ov1 mv1 jv1)) := ((Only.refl _ _).setCell _ _).setCell _ _
      exact bodyPost_ret (v := .tuple #[.agg #[.bool sv1, .slice ov1 mv1 jv1], .agg #[.int .i64 0, .int .i64 0]]) (by simp [results, Tryd.results14, go_sem, k0, k1, k2, k3]) rfl ⟨_, _, rfl, rfl, sv1, ov1, mv1, jv1, rfl, (Kv1.keepRes R1.row _ _).keepFault ((hO.block _ (by omega)).trans F1), by omega, zput2 (zput2 (hE.trans hv1) (by omega) _ _) (by omega) _ _⟩
    · exact absurd (hnn.resolve_left hbad) hpos

end Go.Proofs.YtnemjllghpijgaaDoor
