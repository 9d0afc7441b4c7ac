/-
  The reference's numbers: ZPow2. The reference: a number over a greater power. The reference: sums. The reference: differences. A region that draws its order, calls one function behind the other, and makes one or two variables that wait for nothing: the variables may be made ahead of, between or behind the calls. What is asked of the calls is asked once, in every world that extends the one at hand.
-/
import Derived.Test.YtlmfhopifggeaaaDoorProg
import Derived.Test.YtlmfhopifggeaaaDoorRows
import Derived.BigQuiet
import Derived.Deep.AppendLies
import Derived.Deep.Cut
import Derived.Deep.CutRange
import Derived.Deep.MidRow
import Derived.Deep.QuietTactic
import Derived.Deep.RegionHeld3
import Derived.Ground.Names2Prog
import Derived.Ground.SlgnProg
import Derived.Laws.Bits64b
import Derived.Laws.CopyOwn
import Derived.Laws.ResultCell
import Derived.Laws.Rows
import Derived.Lib.BitFns
import Derived.Lib.Hide
import Derived.Lib.ItoaNum
import Derived.Lib.Strings
import Derived.Lib.TrailingZeros
import Derived.OrdersHeld
import Derived.OwnWalk
import Derived.ProofKit
import Derived.RegionTactic
import Derived.Shelf.Slices.Clone
import Derived.Shelf.SlicesE.Clone
import Derived.WalkKit
import Derived.WalkLawsBesides
import Derived.WalkSpells
import Derived.Test.YtlmfhopifggeaaaDoorS00Mem
import Derived.Test.YtlmfhopifggeaaaDoorShelf
import Derived.Test.YtlmfhopifggeaaaDoorS02ZBq
import Derived.Test.YtlmfhopifggeaaaDoorS03ZKq
import Derived.Test.YtlmfhopifggeaaaDoorS04Udq
namespace Go.Proofs.YtlmfhopifggeaaaDoor
variable {Qc : Nat → Prop}
open Go.RowKit

theorem pow2_len (e : Nat) : (((2 ^ e : Nat) : Int)).natAbs < 10000 ^ (e + 1) := by
  rw [Int.natAbs_natCast]
  have h1 : 2 ^ e ≤ 10000 ^ e := Nat.pow_le_pow_left (by decide) e
  have h2 : 10000 ^ e < 10000 ^ (e + 1) := Nat.pow_lt_pow_right (by decide) (by omega)
  omega
theorem pow2_mul (s e : Nat) : ((2 ^ s : Nat) : Int) * ((2 ^ e : Nat) : Int) = ((2 ^ (s + e) : Nat) : Int) := by rw [← Int.natCast_mul, ← Nat.pow_add]

theorem ZBx.far {wr : World} {Rb Zb : Nat} {b : Bool} {a : Option Addr} {n c : Nat} (hz : ZBx wr Zb b a n c) (hne : Zb ≠ Rb) (u v : Value) : ZBx ((wr.setCell ⟨Rb, 0, none⟩ u).setCell ⟨Rb, 1, none⟩ v) Zb b a n c := by
  have hO : Only Rb wr ((wr.setCell ⟨Rb, 0, none⟩ u).setCell ⟨Rb, 1, none⟩ v) := ((Only.refl _ _).setCell _ _).setCell _ _
  exact ⟨(hO.block _ hne).trans hz.row⟩
theorem ZRes.far {wr : World} {Rb g : Nat} (hz : ZRes wr g) (hne : g ≠ Rb) (u v : Value) : ZRes ((wr.setCell ⟨Rb, 0, none⟩ u).setCell ⟨Rb, 1, none⟩ v) g := by
  have hO : Only Rb wr ((wr.setCell ⟨Rb, 0, none⟩ u).setCell ⟨Rb, 1, none⟩ v) := ((Only.refl _ _).setCell _ _).setCell _ _
  exact ⟨(hO.block _ hne).trans hz.row⟩

set_option maxHeartbeats 2000000 in
set_option maxRecDepth 100000 in
theorem ZPow2_any (N : Nat) (hN : N ≤ 10000) (w : World) (hL : LimQ Qc w) :
    Calls Tryd.prog 84 #[.int .i64 (N : Int)] w (ZRet Qc w ((2 ^ N : Nat) : Int) 10001) := by
  have hE0 := ext_alloc w (.cells #[.bool false, .slice none 0 0] 56)
  have hR0 := zres_new w
  have HLm := Lib.hid hL
  clear hL
  go_enter Tryd.func84, Tryd.ntmps84
  go_wp2_with fail
  generalize w.alloc (.cells #[.bool false, .slice none 0 0] 56) = W0 at *
  refine (ZOf_any 1 (by decide) (by decide) W0 (HLm.out.grow hE0.size)).mono ?_
  rintro e w1 ⟨b1, a1, n1, c1, rfl, hI1, hn1, hx1⟩
  have hE1 := ext_alloc w1 (.cells #[.bool b1, .slice a1 n1 c1] 56)
  have bO := zbx_new w1 b1 a1 n1 c1
  have Iow := hI1.ext hE1
  have hR1 := hR0.ext (hx1.trans hE1)
  have hEw := hE0.trans (hx1.trans hE1)
  have l1 : w.heap.size < w1.heap.size := (hR0.ext hx1).lt
  go_wp2_with fail
  generalize w1.alloc (.cells #[.bool b1, .slice a1 n1 c1] 56) = W1 at *
  generalize w1.heap.size = O at *
  refine (ZOf_any 2 (by decide) (by decide) W1 (HLm.out.grow hEw.size)).mono ?_
  rintro e w2 ⟨b2, a2, n2, c2, rfl, hI2, hn2, hx2⟩
  have hE2 := ext_alloc w2 (.cells #[.bool b2, .slice a2 n2 c2] 56)
  have bY := zbx_new w2 b2 a2 n2 c2
  have IY := hI2.ext hE2
  have IO2 := Iow.ext (hx2.trans hE2); have bO2 := bO.ext (hx2.trans hE2); have hR2 := hR1.ext (hx2.trans hE2)
  have hEw2 := hEw.trans (hx2.trans hE2)
  have l2 : O < w2.heap.size := (bO.ext hx2).lt
  go_wp2_with fail
  generalize w2.alloc (.cells #[.bool b2, .slice a2 n2 c2] 56) = W2 at *
  generalize w2.heap.size = Y at *
  have Hl : Hid (w.heap.size < O ∧ O < Y) := ⟨l1, l2⟩
  clear l1 l2 hE0 hR0 hI1 hn1 hx1 hE1 bO Iow hR1 hEw hI2 hn2 hx2 hE2
  go_loopw [0] (fun nv wr => ∃ (k s e : Nat) (b : Bool) (a : Option Addr) (n c : Nat) (b' : Bool) (a' : Option Addr) (n' c' : Nat), nv = .int .i64 k ∧ k ≤ N ∧ s + e * k = N ∧ e ≤ 20000 ∧ ZBx wr O b a n c ∧ IsZ Qc wr b a n c ((2 ^ s : Nat) : Int) ∧ ZBx wr Y b' a' n' c' ∧ IsZ Qc wr b' a' n' c' ((2 ^ e : Nat) : Int) ∧ ZRes wr w.heap.size ∧ Ext w wr) (fun nv _ => (intOf nv).toNat)
  case atStart => exact ⟨N, 0, 1, b1, a1, n1, c1, b2, a2, n2, c2, rfl, Nat.le_refl _, by omega, by omega, bO2, IO2, bY, IY, hR2, hEw2⟩
  case round =>
    clear bO2 IO2 bY IY hR2 hEw2
    obtain ⟨k, s, e, b, a, n, c, b', a', n', c', rfl, hk, hse, he, hO, iO, hY, iY, hR, hE⟩ := hrel
    have HO := Lib.hid hO; have HIO := Lib.hid iO; have HY := Lib.hid hY; have HIY := Lib.hid iY; have HR := Lib.hid hR; have HE := Lib.hid hE; have Hse := Lib.hid hse
    have d0 := hO.c0; have d1 := hO.c1; have d2 := hY.c0; have d3 := hY.c1
    have hns := iO.len_of (pow2_len s); have hne := iY.len_of (pow2_len e)
    by_cases hk0 : 0 < k
    · have ik : (0 : Int) < (k : Int) := by omega
      have hee : e ≤ N := by
        have h1 : e * 1 ≤ e * k := Nat.mul_le_mul_left _ hk0
        omega
      have hsN : s ≤ N := by omega
      obtain ⟨h, hh⟩ : ∃ h, k / 2 = h := ⟨_, rfl⟩
      have t1 : (k : Int).tdiv 2 = (h : Int) := by rw [Int.tdiv_eq_ediv_of_nonneg (by omega)]; omega
      by_cases hod : k % 2 = 1
      · have t2 : (k : Int).tmod 2 = 1 := by rw [Int.tmod_eq_emod_of_nonneg (by omega)]; omega
        have Hnew : Hid ((s + e) + (e + e) * h = N) := by
          show _ = _
          have e1 : k = 2 * h + 1 := by omega
          rw [← Hse.out, e1, Nat.mul_add, Nat.mul_one, Nat.add_mul]
          have e2 : e * (2 * h) = e * h + e * h := by rw [← Nat.mul_add]; congr 1; omega
          omega
        have hhk : h < k := by omega
        clear hse hO iO hY iY hR hE hh hod
        go_wp2_with fail
        refine (ZMul_any b b' a a' n c n' c' ((2 ^ s : Nat) : Int) ((2 ^ e : Nat) : Int) wr HIO.out HIY.out (by omega) (by omega)).mono ?_
        rintro er w5 ⟨b5, a5, n5, c5, rfl, hI5, hn5, hx5⟩
        have O5 := HO.out.ext hx5; have Y5 := HY.out.ext hx5
        have u0 := O5.c0; have u1 := O5.c1; have f0 := O5.f 0; have f1 := O5.f 1
        have Y6 := Y5.far (Rb := O) (by have := Hl.out; omega) (.bool b5) (.slice a5 n5 c5)
        have O6 := O5.own b5 a5 n5 c5
        have I6 := (hI5.cast (pow2_mul s e)).keepRes O5.row (.bool b5) (.slice a5 n5 c5)
        have J6 := (HIY.out.ext hx5).keepRes O5.row (.bool b5) (.slice a5 n5 c5)
        have R6 := (HR.out.ext hx5).far (Rb := O) (by have := Hl.out; omega) (.bool b5) (.slice a5 n5 c5)
        have HE6 := Lib.hid (zput2 (HE.out.trans hx5) (by have := Hl.out; omega) (g := O) (.bool b5) (.slice a5 n5 c5))
        have v0 := Y6.c0; have v1 := Y6.c1
        go_wp2_with fail
        generalize (w5.setCell ⟨O, 0, none⟩ (.bool b5)).setCell ⟨O, 1, none⟩ (.slice a5 n5 c5) = W6 at *
        clear u0 u1 f0 f1
        refine (ZMul_any b' b' a' a' n' c' n' c' ((2 ^ e : Nat) : Int) ((2 ^ e : Nat) : Int) W6 J6 J6 (by omega) (by omega)).mono ?_
        rintro er w7 ⟨b7, a7, n7, c7, rfl, hI7, hn7, hx7⟩
        have Y7 := Y6.ext hx7
        have u0 := Y7.c0; have u1 := Y7.c1; have f0 := Y7.f 0; have f1 := Y7.f 1
        go_wp2_with fail
        go_roundw
        case rel => exact ⟨h, s + e, e + e, b5, a5, n5, c5, b7, a7, n7, c7, by go_num, by omega, Hnew.out, by omega, (O6.ext hx7).far (by have := Hl.out; omega) _ _, (I6.ext hx7).keepRes Y7.row _ _, Y7.own _ _ _ _, (hI7.cast (pow2_mul e e)).keepRes Y7.row _ _, (R6.ext hx7).far (by have := Hl.out; omega) _ _, zput2 (HE6.out.trans hx7) (by have := Hl.out; omega) _ _⟩
        case measure => simp [intOf]; omega
      · have t2 : (k : Int).tmod 2 = 0 := by rw [Int.tmod_eq_emod_of_nonneg (by omega)]; omega
        have Hnew : Hid (s + (e + e) * h = N) := by
          show _ = _
          have e1 : k = 2 * h := by omega
          rw [← Hse.out, e1, Nat.add_mul]
          have e2 : e * (2 * h) = e * h + e * h := by rw [← Nat.mul_add]; congr 1; omega
          omega
        have hhk : h < k := by omega
        clear hse hO iO hY iY hR hE hh hod
        go_wp2_with fail
        refine (ZMul_any b' b' a' a' n' c' n' c' ((2 ^ e : Nat) : Int) ((2 ^ e : Nat) : Int) wr HIY.out HIY.out (by omega) (by omega)).mono ?_
        rintro er w7 ⟨b7, a7, n7, c7, rfl, hI7, hn7, hx7⟩
        have Y7 := HY.out.ext hx7
        have u0 := Y7.c0; have u1 := Y7.c1; have f0 := Y7.f 0; have f1 := Y7.f 1
        go_wp2_with fail
        go_roundw
        case rel => exact ⟨h, s, e + e, b, a, n, c, b7, a7, n7, c7, by go_num, by omega, Hnew.out, by omega, (HO.out.ext hx7).far (by have := Hl.out; omega) _ _, (HIO.out.ext hx7).keepRes Y7.row _ _, Y7.own _ _ _ _, (hI7.cast (pow2_mul e e)).keepRes Y7.row _ _, (HR.out.ext hx7).far (by have := Hl.out; omega) _ _, zput2 (HE.out.trans hx7) (by have := Hl.out; omega) _ _⟩
        case measure => simp [intOf]; omega
    · obtain rfl : k = 0 := by omega
      have hsN : s = N := by omega
      have HsN := Lib.hid hsN
      have k0 := hR.c0; have k1 := hR.c1; have f0 := hR.f 0; have f1 := hR.f 1
      have hnn : n ≤ 10001 := by omega
      clear hse hO iO hY iY hR hE hsN
      go_wp2_with fail
      exact bodyPost_ret (v := .agg #[.bool b, .slice a n c]) (by simp [results, Tryd.results84, go_sem, k0, k1]) rfl ⟨b, a, n, c, rfl, (HIO.out.cast (by rw [HsN.out])).keepRes HR.out.row _ _, hnn, zput2 HE.out (Nat.le_refl _) _ _⟩

end Go.Proofs.YtlmfhopifggeaaaDoor
namespace Go.Proofs.YtlmfhopifggeaaaDoor
variable {Qc : Nat → Prop}
open Go.RowKit

set_option maxHeartbeats 400000 in
theorem stepK_storeZ {ops : Array Oper} {o : Oper} {a : Act} {K : Act → World → Prop} {Q : Exit → Act → World → Prop} {E : Prop} {w : World} (hgd : o.guard = none) (hd : o.dst = none) (p x : Operand)
    (ho : o.op = .store 56 p x) (b off : Nat) (s : Bool) (l : Option Addr) (n c : Nat) (u0 u1 : Value) (hp : a.eval p = .pointer (some ⟨b, off, none⟩)) (hx : a.eval x = .agg #[.bool s, .slice l n c])
    (h0 : w.cell? ⟨b, off, none⟩ = some u0) (h1 : w.cell? ⟨b, off + 1, none⟩ = some u1) (f0 : w.frozen? ⟨b, off, none⟩ = false) (f1 : w.frozen? ⟨b, off + 1, none⟩ = false)
    (h : K a ((w.setCell ⟨b, off, none⟩ (.bool s)).setCell ⟨b, off + 1, none⟩ (.slice l n c))) :
    if Region.wanted o (yielded ops a.tmps) = true then Oper.wp Tryd.prog o a w K Q else E := by
  have hw : Region.wanted o (yielded ops a.tmps) = true := by simp [Region.wanted, hgd]
  rw [if_pos hw]
  obtain ⟨od, oo, ot, opp, oa, og⟩ := o
  simp only at ho hd
  subst ho hd
  have HH := Lib.hid h
  clear h
  unfold Oper.wp execOp
  simp only [hp, hx]
  go_simp
  exact HH.out
/-- The first j are c times as great. -/
def mlN (f : Nat → Int) (c : Int) (j : Nat) : Nat → Int := fun i => if i < j then f i * c else f i
theorem mlN_step (f : Nat → Int) (c : Int) (j i : Nat) : updN (mlN f c j) j (f j * c) i = mlN f c (j + 1) i := by
  unfold updN mlN
  by_cases e : i = j
  · subst e; simp
  · rw [if_neg e]
    by_cases h : i < j
    · rw [if_pos h, if_pos (by omega)]
    · rw [if_neg h, if_neg (by omega)]
theorem ZBx.chz {w w' : World} {g k : Nat} {b : Bool} {a : Option Addr} {n c : Nat} (h : ZBx w k b a n c) (ch : ChZ g w w') (hne : k ≠ g) : ZBx w' k b a n c := ⟨ch.row h.row hne⟩

set_option maxRecDepth 100000 in
set_option maxHeartbeats 4000000 in
theorem Qto_any (ca : Array Value) (f : Nat → Int) (d D : Nat) (w : World) (h : ZCs Qc w ca f (d : Int)) (P : Nat) (hP : P ≤ 400000) (hA : ∀ i, i < 8 → (f i).natAbs < 2 ^ P) (hD : D ≤ 10000) (hL : LimQ Qc w) :
    Calls Tryd.prog 76 #[.agg ca, .int .i64 (D : Int)] w fun r w' => ∃ cr : Array Value, r = .returned (.agg cr) ∧ ZCs Qc w' cr (fun i => f i * ((2 ^ (D - d) : Nat) : Int)) ((max D d : Nat) : Int) ∧ Ext w w' := by
  obtain ⟨H, hH⟩ : ∃ H, w.heap.size = H := ⟨_, rfl⟩
  obtain ⟨U, hU⟩ : ∃ U, (w.alloc (.cells ca 59)).alloc (.cells zeroR 59) = U := ⟨_, rfl⟩
  have E0 : Ext w U := by rw [← hU]; exact (Ext.alloc _ _).trans (Ext.alloc _ _)
  have V0 : ZVar Qc U H f (d : Int) := by rw [← hU, ← hH]; exact h.box.ext (Ext.alloc _ _)
  have Z0 : ZVar Qc U (H + 1) (fun _ => 0) 0 := by
    have := (zcs_zero (Qc := Qc) (w.alloc (.cells ca 59))).box
    rw [← hU, ← hH]
    simpa using this
  have HU := Lib.hid hU; have HH := Lib.hid hH; have HP := Lib.hid hP; have HA := Lib.hid hA; have HD := Lib.hid hD; have HV0 := Lib.hid V0; have HZ0 := Lib.hid Z0; have HE0 := Lib.hid E0
  have HLm := Lib.hid hL
  clear hU hH V0 Z0 E0 h hP hA hD hL
  go_enter Tryd.func76, Tryd.ntmps76
  go_upto_region 1 with fail
  rw [HU.out, HH.out]
  clear HU
  have x16 := HV0.out.gete.1
  by_cases hlt : d < D
  · have q1 : (d : Int) < (D : Int) := by omega
    obtain ⟨N, hN⟩ : ∃ N, D - d = N := ⟨_, rfl⟩
    have wN : IntKind.i64.wrap ((D : Int) - (d : Int)) = (N : Int) := by have := HD.out; rw [IntKind.wrap_i64]; omega
    have HPw := Lib.hid (ZPow2_any (Qc := Qc) N (by have := HD.out; omega) U (HLm.out.grow HE0.out.size))
    have HN := Lib.hid hN; have Hmx := Lib.hid (show max D d = D by omega)
    clear hN hlt
    go_upto_region 2 with fail
    go_wp2_with fail
    refine HPw.out.mono ?_
    rintro r w1 ⟨bp, ap, np, cp, rfl, hIp, hnp, hx1⟩
    clear x16 q1 wN HPw
    have eA := Ext.alloc w1 (.cells #[.bool bp, .slice ap np cp] 56)
    have bx := zbx_new w1 bp ap np cp
    have hG := Nat.lt_of_lt_of_le HZ0.out.lt hx1.size
    have hIp2 := hIp.ext eA
    have hV1 := (HV0.out.ext hx1).ext eA; have hZ1 := (HZ0.out.ext hx1).ext eA; have hE1 := (HE0.out.trans hx1).trans eA
    obtain ⟨U1, hU1⟩ : ∃ U1, w1.alloc (.cells #[.bool bp, .slice ap np cp] 56) = U1 := ⟨_, rfl⟩
    obtain ⟨G, hGG⟩ : ∃ G, w1.heap.size = G := ⟨_, rfl⟩
    rw [hU1] at bx hIp2 hV1 hZ1 hE1
    rw [hGG] at bx hG
    have HU1 := Lib.hid hU1; have HGG := Lib.hid hGG; have HG := Lib.hid hG; have Hnp := Lib.hid hnp
    have Hst := Lib.hid (show ZVar Qc U1 H (mlN f ((2 ^ N : Nat) : Int) 0) (d : Int) ∧ ZVar Qc U1 (H + 1) (fun _ => 0) 0 ∧ ZBx U1 G bp ap np cp ∧ IsZ Qc U1 bp ap np cp ((2 ^ N : Nat) : Int) ∧ Ext w U1 from ⟨hV1.congr fun i _ => by simp [mlN], hZ1, bx, hIp2, hE1⟩)
    clear eA bx hG hIp2 hV1 hZ1 hE1 hU1 hGG hIp hx1 hnp HV0 HZ0 HE0
    go_wp2_with fail
    rw [HU1.out, HGG.out]
    clear HU1 HGG
    go_loopg [6] 8 (fun kk s6 wr => ∃ j : Nat, s6 = .int .i64 (j : Int) ∧ j ≤ 8 ∧ 8 - j = kk ∧ ZVar Qc wr H (mlN f ((2 ^ N : Nat) : Int) j) (d : Int) ∧ ZVar Qc wr (H + 1) (fun _ => 0) 0 ∧ ZBx wr G bp ap np cp ∧ IsZ Qc wr bp ap np cp ((2 ^ N : Nat) : Int) ∧ Ext w wr)
    case atStart => exact ⟨0, rfl, by omega, by omega, Hst.out⟩
    case round =>
      clear Hst
      obtain ⟨j, rfl, hj, hjk, hV, hZ, hB, hI, hE⟩ := hrel
      obtain ⟨wo, rfl⟩ : ∃ wo : World, wo = wr := ⟨_, rfl⟩
      by_cases hj8 : j = 8
      · subst hj8
        have y16 := hV.gete.1; have g16 := hV.gete.2
        obtain ⟨hs, hch⟩ := hV.sete (D : Int)
        have hZ' := hZ.chz hch hV.no (by omega); have hE' := hch.ext hE (by rw [HH.out]; exact Nat.le_refl _)
        obtain ⟨W, hW⟩ : ∃ W, wo.setCell ⟨H, 16, none⟩ (.int .i64 (D : Int)) = W := ⟨_, rfl⟩
        rw [hW] at hs hZ' hE'
        have HW := Lib.hid hW
        clear hW hch hV hZ hB hI hE
        go_upto_region 8 with fail
        rw [HW.out]
        clear HW y16 g16
        obtain ⟨cr, hr, hc⟩ := hs
        have hinf : (Tryd.prog.info? 59).map (·.size) = some cr.size := by rw [hc.1]; exact zR_info
        obtain ⟨c1, hr1, hs1, hone, _, rr, hzz, hE2⟩ := fin_rm hc hZ' hE' (by rw [HH.out]; omega)
        have Hend := Lib.hid (show ZCs Qc (W.setRow (H + 1) cr) cr (fun i => f i * ((2 ^ (D - d) : Nat) : Int)) ((max D d : Nat) : Int) ∧ Ext w (W.setRow (H + 1) cr) from by
          rw [Hmx.out, HN.out]
          exact ⟨hzz.congr fun i hi => by unfold mlN; rw [if_pos hi], hE2⟩)
        clear hc hZ' hE' hzz hE2
        go_wp2_with (first
          | refine wpList_load_row rfl 59 _ rfl (H) rfl 59 _ (0, 0) _ hr Tryd.underlying59 rfl hinf ?_
          | refine wpList_store_row rfl 59 _ _ rfl (H + 1) cr rfl rfl 59 _ hr1 hinf hs1 hone ?_)
        refine bodyPost_ret (v := .agg cr) ?_ rfl ⟨_, rfl, Hend.out⟩
        exact results_cell_row rfl _ _ (H + 1) _ _ _ _ rfl rr Tryd.underlying59 rfl hinf
      have hlt : j < 8 := by omega
      have q1 : (j : Int) < 8 := by omega
      have q0 : (0 : Int) ≤ (j : Int) := by omega
      have wk : IntKind.i64.wrap ((j : Int) + 1) = ((j + 1 : Nat) : Int) := by rw [IntKind.wrap_i64]; omega
      have Hj1 := Lib.hid (show j + 1 ≤ 8 by omega); have Hlt := Lib.hid hlt; have Hjk := Lib.hid hjk
      obtain ⟨b1, a1, n1, c1, y0, y1, _, _, hI1⟩ := hV.get j hlt
      have hI2 := hI1.cast (show mlN f ((2 ^ N : Nat) : Int) j j = f j by simp [mlN])
      have hn : n1 ≤ P := hI2.bits (HA.out j hlt)
      have l0 := hB.c0; have l1 := hB.c1
      have lH := hV.lt; have lG := hB.lt
      have HMu := Lib.hid (fun wx (hx : Ext wo wx) => ZMul_any b1 bp a1 ap n1 c1 np cp (f j) ((2 ^ N : Nat) : Int) wx (hI2.ext hx) (hI.ext hx) (by have := HP.out; omega) (by have := Hnp.out; omega))
      have HV := Lib.hid hV; have HZ := Lib.hid hZ; have HB := Lib.hid hB; have HI := Lib.hid hI; have HE := Lib.hid hE
      clear hI1 hI2 hn hV hZ hB hI hE hj8 hj hlt hjk
      go_upto_region 6 with fail
      have hd0 : Ext wo wo.drew := Below.drew (Ext.refl _)
      refine wp_region_K 9 (fun w' => (w'.cell? ⟨H, j * 2, none⟩ = some (.bool b1) ∧ w'.cell? ⟨H, j * 2 + 1, none⟩ = some (.slice a1 n1 c1)) ∧ w'.cell? ⟨G, 0, none⟩ = some (.bool bp) ∧ w'.cell? ⟨G, 1, none⟩ = some (.slice ap np cp)) (by kernel_rfl) ?_
      show anyK _ _ _ _ _ _ 10 #[false, false, false, false, false, false, false, false, false, false] _ _
      have hHeld : (wo.drew.cell? ⟨H, j * 2, none⟩ = some (.bool b1) ∧ wo.drew.cell? ⟨H, j * 2 + 1, none⟩ = some (.slice a1 n1 c1)) ∧ wo.drew.cell? ⟨G, 0, none⟩ = some (.bool bp) ∧ wo.drew.cell? ⟨G, 1, none⟩ = some (.slice ap np cp) := ⟨⟨cellKeep hd0 lH y0, cellKeep hd0 lH y1⟩, cellKeep hd0 lG l0, cellKeep hd0 lG l1⟩
      refine anyK_take (i := 0) (v := ?_) rfl (by kernel_rfl) (by kernel_rfl) (by kernel_rfl) (N := 10) (by kernel_rfl) (by kernel_rfl) (by kernel_rfl) (fun _ _ _ h => h) (Or.inl ⟨by rfl, ?_⟩) hHeld ?_
      rotate_left 1
      · intro w hSw
        go_simp
        try with_reducible rfl
      show anyK _ _ _ _ _ _ _ _ (Act.put _ (some 20) _) _
      simp only [Act.put, List.setIfInBounds_toArray, List.set_cons_zero, List.set_cons_succ]
      refine anyK_take (i := 1) (v := ?_) rfl (by kernel_rfl) (by kernel_rfl) (by kernel_rfl) (N := 10) (by kernel_rfl) (by kernel_rfl) (by kernel_rfl) (fun _ _ _ h => h) (Or.inl ⟨by rfl, ?_⟩) hHeld ?_
      rotate_left 1
      · intro w hSw
        go_simp
        try with_reducible rfl
      show anyK _ _ _ _ _ _ _ _ (Act.put _ (some 21) _) _
      simp only [Act.put, List.setIfInBounds_toArray, List.set_cons_zero, List.set_cons_succ]
      refine anyK_take (i := 2) (v := ?_) rfl (by kernel_rfl) (by kernel_rfl) (by kernel_rfl) (N := 10) (by kernel_rfl) (by kernel_rfl) (by kernel_rfl) (fun _ _ _ h => h) (Or.inl ⟨by rfl, ?_⟩) hHeld ?_
      rotate_left 1
      · intro w hSw
        go_simp
        try with_reducible rfl
      show anyK _ _ _ _ _ _ _ _ (Act.put _ (some 22) _) _
      simp only [Act.put, List.setIfInBounds_toArray, List.set_cons_zero, List.set_cons_succ]
      refine anyK_take (i := 3) (v := ?_) rfl (by kernel_rfl) (by kernel_rfl) (by kernel_rfl) (N := 10) (by kernel_rfl) (by kernel_rfl) (by kernel_rfl) (fun _ _ _ h => h) (Or.inl ⟨by rfl, ?_⟩) hHeld ?_
      rotate_left 1
      · intro w hSw
        go_simp
        try with_reducible rfl
      show anyK _ _ _ _ _ _ _ _ (Act.put _ (some 23) _) _
      simp only [Act.put, List.setIfInBounds_toArray, List.set_cons_zero, List.set_cons_succ]
      refine anyK_take (i := 4) (v := ?_) rfl (by kernel_rfl) (by kernel_rfl) (by kernel_rfl) (N := 10) (by kernel_rfl) (by kernel_rfl) (by kernel_rfl) (fun _ _ _ h => h) (Or.inl ⟨by rfl, ?_⟩) hHeld ?_
      rotate_left 1
      · intro w hSw
        go_simp
        try with_reducible rfl
      show anyK _ _ _ _ _ _ _ _ (Act.put _ (some 24) _) _
      simp only [Act.put, List.setIfInBounds_toArray, List.set_cons_zero, List.set_cons_succ]
      refine anyK_take (i := 5) (v := ?_) rfl (by kernel_rfl) (by kernel_rfl) (by kernel_rfl) (N := 10) (by kernel_rfl) (by kernel_rfl) (by kernel_rfl) (fun _ _ _ h => h) (Or.inl ⟨by rfl, ?_⟩) hHeld ?_
      rotate_left 1
      · intro w hSw
        go_simp
        try with_reducible rfl
      show anyK _ _ _ _ _ _ _ _ (Act.put _ (some 25) _) _
      simp only [Act.put, List.setIfInBounds_toArray, List.set_cons_zero, List.set_cons_succ]
      refine anyK_take (i := 7) (v := ?_) rfl (by kernel_rfl) (by kernel_rfl) (by kernel_rfl) (N := 10) (by kernel_rfl) (by kernel_rfl) (by kernel_rfl) (fun _ _ _ h => h) (Or.inl ⟨by rfl, ?_⟩) hHeld ?_
      rotate_left 1
      · intro w hSw
        go_simp
        try with_reducible rfl
      show anyK _ _ _ _ _ _ _ _ (Act.put _ (some 27) _) _
      simp only [Act.put, List.setIfInBounds_toArray, List.set_cons_zero, List.set_cons_succ]
      clear hHeld
      refine anyK_one (i := 6) (by kernel_rfl) rfl (fun Kk hKk => ?_)
      go_simp
      (go_at_call 85; refine (HMu.out wo.drew hd0).mono ?_; rintro e w3 ⟨b3, a3, n3, c3, rfl, hI3, _, hx3⟩)
      have he3 := hd0.trans hx3
      go_wp2_with fail
      refine hKk.out _ _ (fun _ => ⟨⟨cellKeep he3 lH y0, cellKeep he3 lH y1⟩, cellKeep he3 lG l0, cellKeep he3 lG l1⟩) ?_
      clear hKk Kk
      simp only [List.setIfInBounds_toArray, List.set_cons_zero, List.set_cons_succ]
      have hHeld : (w3.cell? ⟨H, j * 2, none⟩ = some (.bool b1) ∧ w3.cell? ⟨H, j * 2 + 1, none⟩ = some (.slice a1 n1 c1)) ∧ w3.cell? ⟨G, 0, none⟩ = some (.bool bp) ∧ w3.cell? ⟨G, 1, none⟩ = some (.slice ap np cp) := ⟨⟨cellKeep he3 lH y0, cellKeep he3 lH y1⟩, cellKeep he3 lG l0, cellKeep he3 lG l1⟩
      refine anyK_take (i := 8) (v := ?_) rfl (by kernel_rfl) (by kernel_rfl) (by kernel_rfl) (N := 10) (by kernel_rfl) (by kernel_rfl) (by kernel_rfl) (fun _ _ _ h => h) (Or.inl ⟨by rfl, ?_⟩) hHeld ?_
      rotate_left 1
      · intro w hSw
        go_simp
        try with_reducible rfl
      show anyK _ _ _ _ _ _ _ _ (Act.put _ (some 28) _) _
      simp only [Act.put, List.setIfInBounds_toArray, List.set_cons_zero, List.set_cons_succ]
      clear hHeld
      have hV2 := HV.out.ext he3
      obtain ⟨_, _, _, _, z0, z1, fz0, fz1, _⟩ := hV2.get j Hlt.out
      obtain ⟨hs, hch⟩ := hV2.set j Hlt.out hI3
      refine anyK_one (i := 9) (by kernel_rfl) rfl (fun Kk hKk => ?_)
      refine stepK_storeZ rfl rfl _ _ rfl H (j * 2) b3 a3 n3 c3 _ _ rfl rfl z0 z1 fz0 fz1 ?_
      refine hKk.out _ _ (fun h => Bool.noConfusion (show true = false from h)) ?_
      clear hKk Kk
      simp only [List.setIfInBounds_toArray, List.set_cons_zero, List.set_cons_succ]
      refine anyK_done (by kernel_rfl) ?_ _
      have Hend := Lib.hid (show ZVar Qc ((w3.setCell ⟨H, j * 2, none⟩ (.bool b3)).setCell ⟨H, j * 2 + 1, none⟩ (.slice a3 n3 c3)) H (mlN f ((2 ^ N : Nat) : Int) (j + 1)) (d : Int) ∧ ZVar Qc ((w3.setCell ⟨H, j * 2, none⟩ (.bool b3)).setCell ⟨H, j * 2 + 1, none⟩ (.slice a3 n3 c3)) (H + 1) (fun _ => 0) 0 ∧ ZBx ((w3.setCell ⟨H, j * 2, none⟩ (.bool b3)).setCell ⟨H, j * 2 + 1, none⟩ (.slice a3 n3 c3)) G bp ap np cp ∧ IsZ Qc ((w3.setCell ⟨H, j * 2, none⟩ (.bool b3)).setCell ⟨H, j * 2 + 1, none⟩ (.slice a3 n3 c3)) bp ap np cp ((2 ^ N : Nat) : Int) ∧ Ext w ((w3.setCell ⟨H, j * 2, none⟩ (.bool b3)).setCell ⟨H, j * 2 + 1, none⟩ (.slice a3 n3 c3)) from
        ⟨hs.congr fun i _ => mlN_step f _ j i, (HZ.out.ext he3).chz hch hV2.no (by omega), (HB.out.ext he3).chz hch (by have := HG.out; omega), (HI.out.ext he3).chz hch hV2.no, hch.ext (HE.out.trans he3) (by rw [HH.out]; exact Nat.le_refl _)⟩)
      clear hs hch hV2 hI3 hx3 he3 hd0 HMu HV HZ HB HI HE y0 y1 l0 l1 lH lG z0 z1 fz0 fz1
      generalize ((w3.setCell ⟨H, j * 2, none⟩ (.bool b3)).setCell ⟨H, j * 2 + 1, none⟩ (.slice a3 n3 c3)) = V at *
      go_wp2_with fail
      go_roundg (8 - (j + 1))
      case measure => have := Hjk.out; have := Hj1.out; omega
      case rel => exact ⟨j + 1, rfl, Hj1.out, rfl, Hend.out⟩
  · have q1 : ¬ (d : Int) < (D : Int) := by omega
    have Hmx := Lib.hid (show max D d = d by omega); have HN := Lib.hid (show D - d = 0 by omega)
    clear hlt
    obtain ⟨cr, hr, hc⟩ := HV0.out
    have hinf : (Tryd.prog.info? 59).map (·.size) = some cr.size := by rw [hc.1]; exact zR_info
    obtain ⟨c1, hr1, hs1, hone, _, rr, hzz, hE2⟩ := fin_rm hc HZ0.out HE0.out (by rw [HH.out]; omega)
    have Hend := Lib.hid (show ZCs Qc (U.setRow (H + 1) cr) cr (fun i => f i * ((2 ^ (D - d) : Nat) : Int)) ((max D d : Nat) : Int) ∧ Ext w (U.setRow (H + 1) cr) from by
      rw [Hmx.out, HN.out]
      exact ⟨hzz.congr fun i hi => by simp, hE2⟩)
    clear hc hzz hE2 HV0 HZ0 HE0
    go_wp2_with (first
      | refine wpList_load_row rfl 59 _ rfl (H) rfl 59 _ (0, 0) _ hr Tryd.underlying59 rfl hinf ?_
      | refine wpList_store_row rfl 59 _ _ rfl (H + 1) cr rfl rfl 59 _ hr1 hinf hs1 hone ?_)
    refine bodyPost_ret (v := .agg cr) ?_ rfl ⟨_, rfl, Hend.out⟩
    exact results_cell_row rfl _ _ (H + 1) _ _ _ _ rfl rr Tryd.underlying59 rfl hinf
end Go.Proofs.YtlmfhopifggeaaaDoor
namespace Go.Proofs.YtlmfhopifggeaaaDoor
variable {Qc : Nat → Prop}
open Go.RowKit

/-- The first j are summed. -/
def adQ (f g : Nat → Int) (j : Nat) : Nat → Int := fun i => if i < j then f i + g i else f i
theorem adN_step (f g : Nat → Int) (j i : Nat) : updN (adQ f g j) j (f j + g j) i = adQ f g (j + 1) i := by
  unfold updN adQ
  by_cases e : i = j
  · subst e; simp
  · rw [if_neg e]
    by_cases h : i < j
    · rw [if_pos h, if_pos (by omega)]
    · rw [if_neg h, if_neg (by omega)]
theorem zero_of_zeroN {x : Nm} (hx : Anti x.a) (h : zeroN fun i : Nat => x.a i) : ∀ k, x.a k = 0 := fun k => by
  have h1 : ext8 (fun i : Nat => x.a i) = ext8 fun _ => 0 := ext8_congr fun i hi => h i hi
  have h2 := congrFun (ext8_of hx) k
  rw [← h2, h1, ext8_zero]
theorem eqN_zero_add {x y : Nm} (h : ∀ k, x.a k = 0) : EqN y (nAdd x y) := fun k => by
  have := h k
  simp only [nAdd, this, Int.pow_add]; grind
theorem eqN_add_zero {x y : Nm} (h : ∀ k, y.a k = 0) : EqN x (nAdd x y) := fun k => by
  have := h k
  simp only [nAdd, this, Int.pow_add]; grind
theorem ext8_lin (f g : Nat → Int) (c c' : Int) (k : Int) : ext8 (fun i => f i * c + g i * c') k = ext8 f k * c + ext8 g k * c' := by
  unfold ext8
  split
  · rfl
  · simp only [Int.neg_add, Int.neg_mul]
theorem eqN_sum {x y : Nm} (hx : Anti x.a) (hy : Anti y.a) {M p q : Nat} (h1 : p + x.e = M) (h2 : q + y.e = M) :
    EqN ⟨ext8 (fun i : Nat => x.a i * ((2 ^ p : Nat) : Int) + y.a i * ((2 ^ q : Nat) : Int)), M⟩ (nAdd x y) := fun k => by
  show ext8 (fun i : Nat => x.a i * ((2 ^ p : Nat) : Int) + y.a i * ((2 ^ q : Nat) : Int)) k * 2 ^ (x.e + y.e) = (x.a k * 2 ^ y.e + y.a k * 2 ^ x.e) * 2 ^ M
  rw [ext8_lin (fun i : Nat => x.a i) (fun i : Nat => y.a i), congrFun (ext8_of hx) k, congrFun (ext8_of hy) k]
  have e1 : (2 : Int) ^ M = ((2 ^ p : Nat) : Int) * 2 ^ x.e := by rw [← h1, Int.pow_add]; simp
  have e2 : (2 : Int) ^ M = ((2 ^ q : Nat) : Int) * 2 ^ y.e := by rw [← h2, Int.pow_add]; simp
  rw [Int.pow_add]
  grind
theorem abs_pow {z : Int} {P p : Nat} (h : z.natAbs < 2 ^ P) : (z * ((2 ^ p : Nat) : Int)).natAbs < 2 ^ (P + p) := by
  rw [Int.natAbs_mul, Int.natAbs_natCast, Nat.pow_add]
  exact Nat.mul_lt_mul_of_pos_right h (Nat.pow_pos (by decide))
theorem abs_le_pow {z : Int} {P p Q : Nat} (h : z.natAbs < 2 ^ P) (hQ : P + p ≤ Q) : (z * ((2 ^ p : Nat) : Int)).natAbs < 2 ^ Q :=
  Nat.lt_of_lt_of_le (abs_pow h) (Nat.pow_le_pow_right (by decide) hQ)
theorem abs_sum {a b : Int} {Q : Nat} (ha : a.natAbs < 2 ^ Q) (hb : b.natAbs < 2 ^ Q) : (a + b).natAbs < 2 ^ (Q + 1) := by
  rw [Nat.pow_succ]; omega

set_option maxRecDepth 100000 in
set_option maxHeartbeats 4000000 in
theorem QAdd_w (ca cb : Array Value) (x y : Nm) (P E : Nat) (w : World) (h : RmW Qc w ca x P E) (g : RmW Qc w cb y P E) (hP : P + E + 1 ≤ 400000) (hE : E ≤ 10000) (hL : LimQ Qc w) :
    Calls Tryd.prog 60 #[.agg ca, .agg cb] w fun r w' => ∃ (cr : Array Value) (z : Nm), r = .returned (.agg cr) ∧ RmW Qc w' cr z (P + E + 1) E ∧ (Low x → Low y → Low z) ∧ EqN z (nAdd x y) ∧ Ext w w' := by
  obtain ⟨X, hX⟩ : ∃ X : Nat → Int, (fun i : Nat => x.a i) = X := ⟨_, rfl⟩
  obtain ⟨Y, hY⟩ : ∃ Y : Nat → Int, (fun i : Nat => y.a i) = Y := ⟨_, rfl⟩
  have HLm := Lib.hid hL
  clear hL
  have hv := h.val; have gv := g.val
  rw [hX] at hv
  rw [hY] at gv
  have hXa : ∀ i, i < 8 → (X i).natAbs < 2 ^ P := fun i _ => by rw [← hX]; exact h.abs i
  have hYa : ∀ i, i < 8 → (Y i).natAbs < 2 ^ P := fun i _ => by rw [← hY]; exact g.abs i
  obtain ⟨H, hH⟩ : ∃ H, w.heap.size = H := ⟨_, rfl⟩
  obtain ⟨U, hU⟩ : ∃ U, ((w.alloc (.cells ca 59)).alloc (.cells cb 59)).alloc (.cells zeroR 59) = U := ⟨_, rfl⟩
  have E0 : Ext w U := by rw [← hU]; exact ((Ext.alloc _ _).trans (Ext.alloc _ _)).trans (Ext.alloc _ _)
  have A0 : ZVar Qc U H X (x.e : Int) := by rw [← hU, ← hH]; exact (hv.box.ext (Ext.alloc _ _)).ext (Ext.alloc _ _)
  have B0 : ZVar Qc U (H + 1) Y (y.e : Int) := by
    have := ((gv.ext (Ext.alloc w (.cells ca 59))).box).ext (Ext.alloc _ (.cells zeroR 59))
    rw [← hU, ← hH]
    simpa using this
  have Z0 : ZVar Qc U (H + 2) (fun _ => 0) 0 := by
    have := (zcs_zero (Qc := Qc) ((w.alloc (.cells ca 59)).alloc (.cells cb 59))).box
    rw [← hU, ← hH]
    simpa using this
  have HU := Lib.hid hU; have HH := Lib.hid hH; have HP := Lib.hid hP; have HEE := Lib.hid hE; have HXa := Lib.hid hXa; have HYa := Lib.hid hYa; have Hh := Lib.hid h; have Hg := Lib.hid g; have HX := Lib.hid hX; have HY := Lib.hid hY
  have HA := Lib.hid A0; have HB := Lib.hid B0; have HZ := Lib.hid Z0; have HE := Lib.hid E0
  clear hU hH A0 B0 Z0 E0 h g hP hE hXa hYa hX hY hv gv
  go_enter Tryd.func60, Tryd.ntmps60
  go_upto_region 1 with fail
  rw [HU.out, HH.out]
  clear HU
  obtain ⟨cA, rA, zA⟩ := HA.out
  have iA : (Tryd.prog.info? 59).map (·.size) = some cA.size := by rw [zA.1]; exact zR_info
  by_cases hx0 : zeroN X
  · have HQ := Lib.hid (QZero_any cA X _ U zA true (by simp [hx0]))
    have Hx0 := Lib.hid hx0
    clear zA hx0
    go_wp2_with (refine wpList_load_row rfl 59 _ rfl (H) rfl 59 _ (0, 0) _ rA Tryd.underlying59 rfl iA ?_)
    refine HQ.out.mono ?_
    rintro r w2 ⟨rfl, hx2⟩
    obtain ⟨cr, hr, hc⟩ := HB.out.ext hx2
    have hinf : (Tryd.prog.info? 59).map (·.size) = some cr.size := by rw [hc.1]; exact zR_info
    obtain ⟨c1, hr1, hs1, hone, _, rr, hzz, hE'⟩ := fin_rm hc (HZ.out.ext hx2) (HE.out.trans hx2) (by rw [HH.out]; omega)
    have Hend := Lib.hid (show RmW Qc (w2.setRow (H + 2) cr) cr y (P + E + 1) E ∧ (Low x → Low y → Low y) ∧ EqN y (nAdd x y) ∧ Ext w (w2.setRow (H + 2) cr) from by
      have hg := Hg.out
      have hy := HY.out
      subst hy
      exact ⟨RmW.le ⟨hg.anti, hg.abs, hg.down, hzz⟩ (by omega) (Nat.le_refl _), fun _ h => h, eqN_zero_add (zero_of_zeroN Hh.out.anti (by rw [HX.out]; exact Hx0.out)), hE'⟩)
    clear hc hzz hE' hx2 HQ HA HB HZ HE rA iA
    go_wp2_with (first
      | refine wpList_load_row rfl 59 _ rfl (H + 1) rfl 59 _ (0, 0) _ hr Tryd.underlying59 rfl hinf ?_
      | refine wpList_store_row rfl 59 _ _ rfl (H + 2) cr rfl rfl 59 _ hr1 hinf hs1 hone ?_)
    refine bodyPost_ret (v := .agg cr) ?_ rfl ⟨_, _, rfl, Hend.out⟩
    exact results_cell_row rfl _ _ (H + 2) _ _ _ _ rfl rr Tryd.underlying59 rfl hinf
  have HQ := Lib.hid (QZero_any cA X _ U zA false (by simp [hx0]))
  clear zA hx0
  go_upto_region 1 with fail
  go_wp2_with (refine wpList_load_row rfl 59 _ rfl (H) rfl 59 _ (0, 0) _ rA Tryd.underlying59 rfl iA ?_)
  refine HQ.out.mono ?_
  rintro r w2 ⟨rfl, hx2⟩
  have HA2 := Lib.hid (HA.out.ext hx2); have HB2 := Lib.hid (HB.out.ext hx2); have HZ2 := Lib.hid (HZ.out.ext hx2); have HE2 := Lib.hid (HE.out.trans hx2)
  clear HA HB HZ HE hx2 rA iA HQ
  obtain ⟨cB, rB, zB⟩ := HB2.out
  have iB : (Tryd.prog.info? 59).map (·.size) = some cB.size := by rw [zB.1]; exact zR_info
  by_cases hy0 : zeroN Y
  · have HQ := Lib.hid (QZero_any cB Y _ w2 zB true (by simp [hy0]))
    have Hy0 := Lib.hid hy0
    clear zB hy0
    go_wp2_with (refine wpList_load_row rfl 59 _ rfl (H + 1) rfl 59 _ (0, 0) _ rB Tryd.underlying59 rfl iB ?_)
    refine HQ.out.mono ?_
    rintro r w3 ⟨rfl, hx3⟩
    obtain ⟨cr, hr, hc⟩ := HA2.out.ext hx3
    have hinf : (Tryd.prog.info? 59).map (·.size) = some cr.size := by rw [hc.1]; exact zR_info
    obtain ⟨c1, hr1, hs1, hone, _, rr, hzz, hE'⟩ := fin_rm hc (HZ2.out.ext hx3) (HE2.out.trans hx3) (by rw [HH.out]; omega)
    have Hend := Lib.hid (show RmW Qc (w3.setRow (H + 2) cr) cr x (P + E + 1) E ∧ (Low x → Low y → Low x) ∧ EqN x (nAdd x y) ∧ Ext w (w3.setRow (H + 2) cr) from by
      have hg := Hh.out
      have hy := HX.out
      subst hy
      exact ⟨RmW.le ⟨hg.anti, hg.abs, hg.down, hzz⟩ (by omega) (Nat.le_refl _), fun h _ => h, eqN_add_zero (zero_of_zeroN Hg.out.anti (by rw [HY.out]; exact Hy0.out)), hE'⟩)
    clear hc hzz hE' hx3 HQ HA2 HB2 HZ2 HE2 rB iB
    go_wp2_with (first
      | refine wpList_load_row rfl 59 _ rfl (H) rfl 59 _ (0, 0) _ hr Tryd.underlying59 rfl hinf ?_
      | refine wpList_store_row rfl 59 _ _ rfl (H + 2) cr rfl rfl 59 _ hr1 hinf hs1 hone ?_)
    refine bodyPost_ret (v := .agg cr) ?_ rfl ⟨_, _, rfl, Hend.out⟩
    exact results_cell_row rfl _ _ (H + 2) _ _ _ _ rfl rr Tryd.underlying59 rfl hinf
  have HQ := Lib.hid (QZero_any cB Y _ w2 zB false (by simp [hy0]))
  clear zB hy0
  go_wp2_with (refine wpList_load_row rfl 59 _ rfl (H + 1) rfl 59 _ (0, 0) _ rB Tryd.underlying59 rfl iB ?_)
  refine HQ.out.mono ?_
  rintro r w3 ⟨rfl, hx3⟩
  have HA3 := Lib.hid (HA2.out.ext hx3); have HB3 := Lib.hid (HB2.out.ext hx3); have HZ3 := Lib.hid (HZ2.out.ext hx3); have HE3 := Lib.hid (HE2.out.trans hx3)
  clear HA2 HB2 HZ2 HE2 hx3 rB iB HQ
  obtain ⟨cA, rA, zA⟩ := HA3.out
  have iA : (Tryd.prog.info? 59).map (·.size) = some cA.size := by rw [zA.1]; exact zR_info
  have e16 := HB3.out.gete.1
  have hd1 := Hh.out.down; have hd2 := Hg.out.down; have hd3 := HEE.out; have hd4 := HP.out
  obtain ⟨M, hM⟩ : ∃ M, max y.e x.e = M := ⟨_, rfl⟩
  obtain ⟨p, hp⟩ : ∃ p, y.e - x.e = p := ⟨_, rfl⟩
  obtain ⟨q, hq⟩ : ∃ q, M - y.e = q := ⟨_, rfl⟩
  have HM := Lib.hid (show p + x.e = M ∧ q + y.e = M ∧ M ≤ E ∧ max M y.e = M by omega)
  have HQ := Lib.hid (Qto_any cA X x.e y.e w3 zA P (by omega) HXa.out (by omega) (HLm.out.grow HE3.out.size))
  rw [hM, hp] at HQ
  have Hq := Lib.hid hq
  clear zA hd1 hd2 hd3 hd4 hM hp hq
  go_wp2_with (refine wpList_load_row rfl 59 _ rfl (H) rfl 59 _ (0, 0) _ rA Tryd.underlying59 rfl iA ?_)
  refine HQ.out.mono ?_
  rintro r w4 ⟨cr, rfl, hcr, hx4⟩
  have hA4 := HA3.out.ext hx4
  obtain ⟨n1, ch, _, _⟩ := hcr.setRow hA4
  have hB4 := (HB3.out.ext hx4).chz ch hA4.no (by omega); have hZ4 := (HZ3.out.ext hx4).chz ch hA4.no (by omega); have hE4 := ch.ext (HE3.out.trans hx4) (by rw [HH.out]; exact Nat.le_refl _)
  obtain ⟨cO, rO, zO⟩ := hA4
  have iR : (Tryd.prog.info? 59).map (·.size) = some cr.size := by rw [hcr.1]; exact zR_info
  have sO : cO.size = cr.size := by rw [zO.1, hcr.1]
  have oR := hcr.one
  obtain ⟨cB, rB, zB⟩ := hB4
  have iB : (Tryd.prog.info? 59).map (·.size) = some cB.size := by rw [zB.1]; exact zR_info
  have e16' := n1.gete.1
  have HQ2 := Lib.hid (Qto_any cB Y y.e M (w4.setRow H cr) zB P (by have := HP.out; omega) HYa.out (by have := HM.out; have := HEE.out; omega) (HLm.out.grow hE4.size))
  rw [Hq.out, HM.out.2.2.2] at HQ2
  have HA4 := Lib.hid n1; have HB4 : Hid (ZVar Qc (w4.setRow H cr) (H + 1) Y (y.e : Int)) := Lib.hid ⟨cB, rB, zB⟩; have HZ4 := Lib.hid hZ4; have HE4 := Lib.hid hE4
  clear HQ HA3 HB3 HZ3 HE3 hx4 n1 ch hZ4 hE4 zO hcr zB rA iA e16 
  go_wp2_with (first
    | refine wpList_store_row rfl 59 _ _ rfl (H) cr rfl rfl 59 _ rO iR sO oR ?_
    | refine wpList_load_row rfl 59 _ rfl (H + 1) rfl 59 _ (0, 0) _ rB Tryd.underlying59 rfl iB ?_)
  refine HQ2.out.mono ?_
  rintro r w5 ⟨cq, rfl, hcq, hx5⟩
  clear rO iR sO oR e16'
  have hB5 := HB4.out.ext hx5
  obtain ⟨n1, ch, _, _⟩ := hcq.setRow hB5
  have hA5 := (HA4.out.ext hx5).chz ch hB5.no (by omega); have hZ5 := (HZ4.out.ext hx5).chz ch hB5.no (by omega); have hE5 := ch.ext (HE4.out.trans hx5) (by rw [HH.out]; omega)
  obtain ⟨cO, rO, zO⟩ := hB5
  have iR : (Tryd.prog.info? 59).map (·.size) = some cq.size := by rw [hcq.1]; exact zR_info
  have sO : cO.size = cq.size := by rw [zO.1, hcq.1]
  have oR := hcq.one
  obtain ⟨fa, hfa⟩ : ∃ fa : Nat → Int, (fun i => X i * ((2 ^ p : Nat) : Int)) = fa := ⟨_, rfl⟩
  obtain ⟨fb, hfb⟩ : ∃ fb : Nat → Int, (fun i => Y i * ((2 ^ q : Nat) : Int)) = fb := ⟨_, rfl⟩
  rw [hfa] at hA5
  rw [hfb] at n1
  have hfaA : ∀ i, i < 8 → (fa i).natAbs < 2 ^ (P + E) := fun i hi => by rw [← hfa]; exact abs_le_pow (HXa.out i hi) (by have := HM.out; omega)
  have hfbA : ∀ i, i < 8 → (fb i).natAbs < 2 ^ (P + E) := fun i hi => by rw [← hfb]; exact abs_le_pow (HYa.out i hi) (by have := HM.out; omega)
  have Hsum := Lib.hid (show EqN ⟨ext8 (adQ fa fb 8), M⟩ (nAdd x y) from by
    have e : ext8 (adQ fa fb 8) = ext8 (fun i : Nat => x.a i * ((2 ^ p : Nat) : Int) + y.a i * ((2 ^ q : Nat) : Int)) := ext8_congr fun i hi => by
      unfold adQ; rw [if_pos hi, ← hfa, ← hfb, ← HX.out, ← HY.out]
    rw [e]
    exact eqN_sum Hh.out.anti Hg.out.anti HM.out.1 HM.out.2.1)
  have HfaA := Lib.hid hfaA; have HfbA := Lib.hid hfbA
  have Hst := Lib.hid (show ZVar Qc (w5.setRow (H + 1) cq) H (adQ fa fb 0) (M : Int) ∧ ZVar Qc (w5.setRow (H + 1) cq) (H + 1) fb (M : Int) ∧ ZVar Qc (w5.setRow (H + 1) cq) (H + 2) (fun _ => 0) 0 ∧ Ext w (w5.setRow (H + 1) cq) from ⟨hA5.congr fun i _ => by simp [adQ], n1, hZ5, hE5⟩)
  clear HQ2 HA4 HB4 HZ4 HE4 hx5 n1 ch hZ5 hE5 hA5 zO hcq rB iB hfa hfb hfaA hfbA
  go_wp2_with (refine wpList_store_row rfl 59 _ _ rfl (H + 1) cq rfl rfl 59 _ rO iR sO oR ?_)
  clear rO iR sO oR
  generalize w5.setRow (H + 1) cq = V at *
  go_loopg [5] 8 (fun kk s5 wr => ∃ j : Nat, s5 = .int .i64 (j : Int) ∧ j ≤ 8 ∧ 8 - j = kk ∧ ZVar Qc wr H (adQ fa fb j) (M : Int) ∧ ZVar Qc wr (H + 1) fb (M : Int) ∧ ZVar Qc wr (H + 2) (fun _ => 0) 0 ∧ Ext w wr)
  case atStart => exact ⟨0, rfl, by omega, by omega, Hst.out⟩
  case round =>
    clear Hst
    obtain ⟨j, rfl, hj, hjk, hV, hB, hZ, hE⟩ := hrel
    obtain ⟨wo, rfl⟩ : ∃ wo : World, wo = wr := ⟨_, rfl⟩
    by_cases hj8 : j = 8
    · subst hj8
      have HV := Lib.hid hV; have HZ := Lib.hid hZ; have HE := Lib.hid hE
      obtain ⟨cA, rA, zA⟩ := hV
      have iA : (Tryd.prog.info? 59).map (·.size) = some cA.size := by rw [zA.1]; exact zR_info
      have HAb := Lib.hid (show ∀ i, i < 8 → (adQ fa fb 8 i).natAbs < 2 ^ (P + E + 1) from fun i hi => by unfold adQ; rw [if_pos hi]; exact abs_sum (HfaA.out i hi) (HfbA.out i hi))
      by_cases hz : zeroN (adQ fa fb 8)
      · have HQ := Lib.hid (QZero_any cA _ _ wo zA true (by simp [hz]))
        have Hz := Lib.hid hz
        clear zA hz hB hZ hE hj hjk
        go_wp2_with (refine wpList_load_row rfl 59 _ rfl (H) rfl 59 _ (0, 0) _ rA Tryd.underlying59 rfl iA ?_)
        refine HQ.out.mono ?_
        rintro r w2 ⟨rfl, hx2⟩
        obtain ⟨c1, hr1, hs1, hone, hinf, rr, hzz, hE'⟩ := fin_rm (zcs_zero (Qc := Qc) w2) (HZ.out.ext hx2) (HE.out.trans hx2) (by rw [HH.out]; omega)
        have Hend := Lib.hid (show RmW Qc (w2.setRow (H + 2) zeroR) zeroR ⟨ext8 (fun _ => 0), 0⟩ (P + E + 1) E ∧ (Low x → Low y → Low ⟨ext8 (fun _ => 0), 0⟩) ∧ EqN ⟨ext8 (fun _ => 0), 0⟩ (nAdd x y) ∧ Ext w (w2.setRow (H + 2) zeroR) from
          ⟨⟨anti_ext8 (fun _ => 0), fun k => by rw [ext8_zero]; exact Nat.pow_pos (by decide), Nat.zero_le _, hzz.congr fun i _ => by show (0 : Int) = ext8 (fun _ => 0) (i : Int); rw [ext8_zero]⟩, fun _ _ => Or.inl rfl, (same_zero (f := adQ fa fb 8) (EqN.refl _) Hz.out).trans Hsum.out, hE'⟩)
        clear hzz hE' hx2 HQ HZ HE HV rA iA
        go_wp2_with (refine wpList_store_row rfl 59 _ _ rfl (H + 2) zeroR rfl rfl 59 _ hr1 hinf hs1 hone ?_)
        refine bodyPost_ret (v := .agg zeroR) ?_ rfl ⟨_, _, rfl, Hend.out⟩
        exact results_cell_row rfl _ _ (H + 2) _ _ _ _ rfl rr Tryd.underlying59 rfl hinf
      have HQ := Lib.hid (QZero_any cA _ _ wo zA false (by simp [hz]))
      clear zA hz hB hZ hE hj hjk
      go_wp2_with (refine wpList_load_row rfl 59 _ rfl (H) rfl 59 _ (0, 0) _ rA Tryd.underlying59 rfl iA ?_)
      refine HQ.out.mono ?_
      rintro r w2 ⟨rfl, hx2⟩
      clear rA iA
      have hV2 := HV.out.ext hx2
      obtain ⟨cA, rA, zA⟩ := hV2
      have iA : (Tryd.prog.info? 59).map (·.size) = some cA.size := by rw [zA.1]; exact zR_info
      have HZ2 := Lib.hid (HZ.out.ext hx2); have HE2 := Lib.hid (HE.out.trans hx2)
      have HQ2 := Lib.hid (Qleast_any cA _ M w2 zA (P + E + 1) E HP.out HAb.out (by have := HM.out; omega) (by have := HEE.out; omega))
      clear zA hx2 HZ HE HV HQ
      go_wp2_with (refine wpList_load_row rfl 59 _ rfl (H) rfl 59 _ (0, 0) _ rA Tryd.underlying59 rfl iA ?_)
      refine HQ2.out.mono ?_
      rintro r w3 ⟨cr, yy, rfl, hcr, hq3, hx3⟩
      obtain ⟨c1, hr1, hs1, hone, hinf, rr, hzz, hE'⟩ := fin_rm hcr.val (HZ2.out.ext hx3) (HE2.out.trans hx3) (by rw [HH.out]; omega)
      have Hend := Lib.hid (show RmW Qc (w3.setRow (H + 2) cr) cr yy (P + E + 1) E ∧ (Low x → Low y → Low yy) ∧ EqN yy (nAdd x y) ∧ Ext w (w3.setRow (H + 2) cr) from
        ⟨⟨hcr.anti, hcr.abs, hcr.down, hzz⟩, fun _ _ => hcr.low, hq3.trans Hsum.out, hE'⟩)
      clear hcr hq3 hzz hE' hx3 HQ2 HZ2 HE2 rA iA
      go_wp2_with (refine wpList_store_row rfl 59 _ _ rfl (H + 2) cr rfl rfl 59 _ hr1 hinf hs1 hone ?_)
      refine bodyPost_ret (v := .agg cr) ?_ rfl ⟨_, _, rfl, Hend.out⟩
      exact results_cell_row rfl _ _ (H + 2) _ _ _ _ rfl rr Tryd.underlying59 rfl hinf
    have hlt : j < 8 := by omega
    have q1 : (j : Int) < 8 := by omega
    have q0 : (0 : Int) ≤ (j : Int) := by omega
    have wk : IntKind.i64.wrap ((j : Int) + 1) = ((j + 1 : Nat) : Int) := by rw [IntKind.wrap_i64]; omega
    have Hj1 := Lib.hid (show j + 1 ≤ 8 by omega); have Hlt := Lib.hid hlt; have Hjk := Lib.hid hjk
    obtain ⟨b1, a1, n1, c1, y0, y1, _, _, hI1⟩ := hV.get j hlt
    obtain ⟨b2, a2, n2, c2, l0, l1, _, _, hI2⟩ := hB.get j hlt
    have hI1' := hI1.cast (show adQ fa fb j j = fa j by simp [adQ])
    have hn1 : n1 ≤ P + E := hI1'.bits (HfaA.out j hlt)
    have hn2 : n2 ≤ P + E := hI2.bits (HfbA.out j hlt)
    have lH := hV.lt; have lG := hB.lt
    have HAd := Lib.hid (fun wx (hx : Ext wo wx) => ZAdd_any b1 b2 a1 a2 n1 c1 n2 c2 (fa j) (fb j) wx (hI1'.ext hx) (hI2.ext hx) (by have := HP.out; omega) (by have := HP.out; omega))
    have HV := Lib.hid hV; have HZ := Lib.hid hZ; have HB := Lib.hid hB; have HE := Lib.hid hE
    clear hI1 hI1' hI2 hn1 hn2 hV hZ hB hE hj8 hj hlt hjk
    go_upto_region 10 with fail
    have hd0 : Ext wo wo.drew := Below.drew (Ext.refl _)
    refine wp_region_K 12 (fun w' => (w'.cell? ⟨H, j * 2, none⟩ = some (.bool b1) ∧ w'.cell? ⟨H, j * 2 + 1, none⟩ = some (.slice a1 n1 c1)) ∧ w'.cell? ⟨H + 1, j * 2, none⟩ = some (.bool b2) ∧ w'.cell? ⟨H + 1, j * 2 + 1, none⟩ = some (.slice a2 n2 c2)) (by kernel_rfl) ?_
    show anyK _ _ _ _ _ _ 13 #[false, false, false, false, false, false, false, false, false, false, false, false, false] _ _
    have hHeld : (wo.drew.cell? ⟨H, j * 2, none⟩ = some (.bool b1) ∧ wo.drew.cell? ⟨H, j * 2 + 1, none⟩ = some (.slice a1 n1 c1)) ∧ wo.drew.cell? ⟨H + 1, j * 2, none⟩ = some (.bool b2) ∧ wo.drew.cell? ⟨H + 1, j * 2 + 1, none⟩ = some (.slice a2 n2 c2) := ⟨⟨cellKeep hd0 lH y0, cellKeep hd0 lH y1⟩, cellKeep hd0 lG l0, cellKeep hd0 lG l1⟩
    refine anyK_take (i := 0) (v := ?_) rfl (by kernel_rfl) (by kernel_rfl) (by kernel_rfl) (N := 13) (by kernel_rfl) (by kernel_rfl) (by kernel_rfl) (fun _ _ _ h => h) (Or.inl ⟨by rfl, ?_⟩) hHeld ?_
    rotate_left 1
    · intro w hSw
      go_simp
      try with_reducible rfl
    show anyK _ _ _ _ _ _ _ _ (Act.put _ (some 24) _) _
    simp only [Act.put, List.setIfInBounds_toArray, List.set_cons_zero, List.set_cons_succ]
    refine anyK_take (i := 1) (v := ?_) rfl (by kernel_rfl) (by kernel_rfl) (by kernel_rfl) (N := 13) (by kernel_rfl) (by kernel_rfl) (by kernel_rfl) (fun _ _ _ h => h) (Or.inl ⟨by rfl, ?_⟩) hHeld ?_
    rotate_left 1
    · intro w hSw
      go_simp
      try with_reducible rfl
    show anyK _ _ _ _ _ _ _ _ (Act.put _ (some 25) _) _
    simp only [Act.put, List.setIfInBounds_toArray, List.set_cons_zero, List.set_cons_succ]
    refine anyK_take (i := 2) (v := ?_) rfl (by kernel_rfl) (by kernel_rfl) (by kernel_rfl) (N := 13) (by kernel_rfl) (by kernel_rfl) (by kernel_rfl) (fun _ _ _ h => h) (Or.inl ⟨by rfl, ?_⟩) hHeld ?_
    rotate_left 1
    · intro w hSw
      go_simp
      try with_reducible rfl
    show anyK _ _ _ _ _ _ _ _ (Act.put _ (some 26) _) _
    simp only [Act.put, List.setIfInBounds_toArray, List.set_cons_zero, List.set_cons_succ]
    refine anyK_take (i := 3) (v := ?_) rfl (by kernel_rfl) (by kernel_rfl) (by kernel_rfl) (N := 13) (by kernel_rfl) (by kernel_rfl) (by kernel_rfl) (fun _ _ _ h => h) (Or.inl ⟨by rfl, ?_⟩) hHeld ?_
    rotate_left 1
    · intro w hSw
      go_simp
      try with_reducible rfl
    show anyK _ _ _ _ _ _ _ _ (Act.put _ (some 27) _) _
    simp only [Act.put, List.setIfInBounds_toArray, List.set_cons_zero, List.set_cons_succ]
    refine anyK_take (i := 4) (v := ?_) rfl (by kernel_rfl) (by kernel_rfl) (by kernel_rfl) (N := 13) (by kernel_rfl) (by kernel_rfl) (by kernel_rfl) (fun _ _ _ h => h) (Or.inl ⟨by rfl, ?_⟩) hHeld ?_
    rotate_left 1
    · intro w hSw
      go_simp
      try with_reducible rfl
    show anyK _ _ _ _ _ _ _ _ (Act.put _ (some 28) _) _
    simp only [Act.put, List.setIfInBounds_toArray, List.set_cons_zero, List.set_cons_succ]
    refine anyK_take (i := 5) (v := ?_) rfl (by kernel_rfl) (by kernel_rfl) (by kernel_rfl) (N := 13) (by kernel_rfl) (by kernel_rfl) (by kernel_rfl) (fun _ _ _ h => h) (Or.inl ⟨by rfl, ?_⟩) hHeld ?_
    rotate_left 1
    · intro w hSw
      go_simp
      try with_reducible rfl
    show anyK _ _ _ _ _ _ _ _ (Act.put _ (some 29) _) _
    simp only [Act.put, List.setIfInBounds_toArray, List.set_cons_zero, List.set_cons_succ]
    refine anyK_take (i := 6) (v := ?_) rfl (by kernel_rfl) (by kernel_rfl) (by kernel_rfl) (N := 13) (by kernel_rfl) (by kernel_rfl) (by kernel_rfl) (fun _ _ _ h => h) (Or.inl ⟨by rfl, ?_⟩) hHeld ?_
    rotate_left 1
    · intro w hSw
      go_simp
      try with_reducible rfl
    show anyK _ _ _ _ _ _ _ _ (Act.put _ (some 30) _) _
    simp only [Act.put, List.setIfInBounds_toArray, List.set_cons_zero, List.set_cons_succ]
    refine anyK_take (i := 7) (v := ?_) rfl (by kernel_rfl) (by kernel_rfl) (by kernel_rfl) (N := 13) (by kernel_rfl) (by kernel_rfl) (by kernel_rfl) (fun _ _ _ h => h) (Or.inl ⟨by rfl, ?_⟩) hHeld ?_
    rotate_left 1
    · intro w hSw
      go_simp
      try with_reducible rfl
    show anyK _ _ _ _ _ _ _ _ (Act.put _ (some 31) _) _
    simp only [Act.put, List.setIfInBounds_toArray, List.set_cons_zero, List.set_cons_succ]
    refine anyK_take (i := 8) (v := ?_) rfl (by kernel_rfl) (by kernel_rfl) (by kernel_rfl) (N := 13) (by kernel_rfl) (by kernel_rfl) (by kernel_rfl) (fun _ _ _ h => h) (Or.inl ⟨by rfl, ?_⟩) hHeld ?_
    rotate_left 1
    · intro w hSw
      go_simp
      try with_reducible rfl
    show anyK _ _ _ _ _ _ _ _ (Act.put _ (some 32) _) _
    simp only [Act.put, List.setIfInBounds_toArray, List.set_cons_zero, List.set_cons_succ]
    refine anyK_take (i := 10) (v := ?_) rfl (by kernel_rfl) (by kernel_rfl) (by kernel_rfl) (N := 13) (by kernel_rfl) (by kernel_rfl) (by kernel_rfl) (fun _ _ _ h => h) (Or.inl ⟨by rfl, ?_⟩) hHeld ?_
    rotate_left 1
    · intro w hSw
      go_simp
      try with_reducible rfl
    show anyK _ _ _ _ _ _ _ _ (Act.put _ (some 34) _) _
    simp only [Act.put, List.setIfInBounds_toArray, List.set_cons_zero, List.set_cons_succ]
    clear hHeld
    refine anyK_one (i := 9) (by kernel_rfl) rfl (fun Kk hKk => ?_)
    go_simp
    (go_at_call 77; refine (HAd.out wo.drew hd0).mono ?_; rintro e w3 ⟨b3, a3, n3, c3, rfl, hI3, _, hx3⟩)
    have he3 := hd0.trans hx3
    go_wp2_with fail
    refine hKk.out _ _ (fun _ => ⟨⟨cellKeep he3 lH y0, cellKeep he3 lH y1⟩, cellKeep he3 lG l0, cellKeep he3 lG l1⟩) ?_
    clear hKk Kk
    simp only [List.setIfInBounds_toArray, List.set_cons_zero, List.set_cons_succ]
    have hHeld : (w3.cell? ⟨H, j * 2, none⟩ = some (.bool b1) ∧ w3.cell? ⟨H, j * 2 + 1, none⟩ = some (.slice a1 n1 c1)) ∧ w3.cell? ⟨H + 1, j * 2, none⟩ = some (.bool b2) ∧ w3.cell? ⟨H + 1, j * 2 + 1, none⟩ = some (.slice a2 n2 c2) := ⟨⟨cellKeep he3 lH y0, cellKeep he3 lH y1⟩, cellKeep he3 lG l0, cellKeep he3 lG l1⟩
    refine anyK_take (i := 11) (v := ?_) rfl (by kernel_rfl) (by kernel_rfl) (by kernel_rfl) (N := 13) (by kernel_rfl) (by kernel_rfl) (by kernel_rfl) (fun _ _ _ h => h) (Or.inl ⟨by rfl, ?_⟩) hHeld ?_
    rotate_left 1
    · intro w hSw
      go_simp
      try with_reducible rfl
    show anyK _ _ _ _ _ _ _ _ (Act.put _ (some 35) _) _
    simp only [Act.put, List.setIfInBounds_toArray, List.set_cons_zero, List.set_cons_succ]
    clear hHeld
    have hV2 := HV.out.ext he3
    obtain ⟨_, _, _, _, z0, z1, fz0, fz1, _⟩ := hV2.get j Hlt.out
    obtain ⟨hs, hch⟩ := hV2.set j Hlt.out hI3
    refine anyK_one (i := 12) (by kernel_rfl) rfl (fun Kk hKk => ?_)
    refine stepK_storeZ rfl rfl _ _ rfl H (j * 2) b3 a3 n3 c3 _ _ rfl rfl z0 z1 fz0 fz1 ?_
    refine hKk.out _ _ (fun h => Bool.noConfusion (show true = false from h)) ?_
    clear hKk Kk
    simp only [List.setIfInBounds_toArray, List.set_cons_zero, List.set_cons_succ]
    refine anyK_done (by kernel_rfl) ?_ _
    have Hend := Lib.hid (show ZVar Qc ((w3.setCell ⟨H, j * 2, none⟩ (.bool b3)).setCell ⟨H, j * 2 + 1, none⟩ (.slice a3 n3 c3)) H (adQ fa fb (j + 1)) (M : Int) ∧ ZVar Qc ((w3.setCell ⟨H, j * 2, none⟩ (.bool b3)).setCell ⟨H, j * 2 + 1, none⟩ (.slice a3 n3 c3)) (H + 1) fb (M : Int) ∧ ZVar Qc ((w3.setCell ⟨H, j * 2, none⟩ (.bool b3)).setCell ⟨H, j * 2 + 1, none⟩ (.slice a3 n3 c3)) (H + 2) (fun _ => 0) 0 ∧ Ext w ((w3.setCell ⟨H, j * 2, none⟩ (.bool b3)).setCell ⟨H, j * 2 + 1, none⟩ (.slice a3 n3 c3)) from
      ⟨hs.congr fun i _ => adN_step fa fb j i, (HB.out.ext he3).chz hch hV2.no (by omega), (HZ.out.ext he3).chz hch hV2.no (by omega), hch.ext (HE.out.trans he3) (by rw [HH.out]; exact Nat.le_refl _)⟩)
    clear hs hch hV2 hI3 hx3 he3 hd0 HAd HV HZ HB HE y0 y1 l0 l1 lH lG z0 z1 fz0 fz1
    generalize ((w3.setCell ⟨H, j * 2, none⟩ (.bool b3)).setCell ⟨H, j * 2 + 1, none⟩ (.slice a3 n3 c3)) = V at *
    go_wp2_with fail
    go_roundg (8 - (j + 1))
    case measure => have := Hjk.out; have := Hj1.out; omega
    case rel => exact ⟨j + 1, rfl, Hj1.out, rfl, Hend.out⟩
theorem QAdd_nm (ca cb : Array Value) (x y : Nm) (P E : Nat) (w : World) (h : RmA Qc w ca x P E) (g : RmA Qc w cb y P E) (hP : P + E + 1 ≤ 400000) (hE : E ≤ 10000) (hL : LimQ Qc w) :
    Calls Tryd.prog 60 #[.agg ca, .agg cb] w fun r w' => ∃ (cr : Array Value) (z : Nm), r = .returned (.agg cr) ∧ RmA Qc w' cr z (P + E + 1) E ∧ EqN z (nAdd x y) ∧ Ext w w' := by
  refine (QAdd_w ca cb x y P E w h.w g.w hP hE hL).mono ?_
  rintro r w' ⟨cr, z, rfl, hw, hl, hq, hx⟩
  exact ⟨cr, z, rfl, hw.a (hl h.low g.low), hq, hx⟩
end Go.Proofs.YtlmfhopifggeaaaDoor
namespace Go.Proofs.YtlmfhopifggeaaaDoor
variable {Qc : Nat → Prop}
open Go.RowKit

set_option maxRecDepth 100000 in
set_option maxHeartbeats 4000000 in
theorem QSub_nm (ca cb : Array Value) (x y : Nm) (P E : Nat) (w : World) (h1 : RmA Qc w ca x P E) (h2 : RmA Qc w cb y P E) (hP : P + E + 1 ≤ 400000) (hE : E ≤ 10000) (hL : LimQ Qc w) :
    Calls Tryd.prog 80 #[.agg ca, .agg cb] w fun e w' => ∃ (cr : Array Value) (z : Nm), e = .returned (.agg cr) ∧ RmA Qc w' cr z (P + E + 1) E ∧ EqN z (nAdd x (nNeg y)) ∧ Ext w w' := by
  obtain ⟨H, hH⟩ : ∃ H, w.heap.size = H := ⟨_, rfl⟩
  obtain ⟨U, hU⟩ : ∃ U, (((w.alloc (.cells ca 59)).alloc (.cells cb 59)).alloc (.cells zeroR 59)) = U := ⟨_, rfl⟩
  have E0 : Ext w U := by rw [← hU]; exact ((Ext.alloc _ _).trans (Ext.alloc _ _)).trans (Ext.alloc _ _)
  have hrA : U.heap[H]? = some (.cells ca 59 (0, 0)) := by rw [← hU, ← hH]; exact (((Ext.alloc _ _).trans (Ext.alloc _ _)).block _ (Array.getElem?_eq_some_iff.1 (heap_alloc_new w (.cells ca 59))).1).trans (heap_alloc_new w _)
  have hrB : U.heap[H + 1]? = some (.cells cb 59 (0, 0)) := by
    have h3 := heap_alloc_new (w.alloc (.cells ca 59)) (.cells cb 59)
    have h4 := ((Ext.alloc ((w.alloc (.cells ca 59)).alloc (.cells cb 59)) (.cells zeroR 59)).block _ (Array.getElem?_eq_some_iff.1 h3).1).trans h3
    rw [← hU, ← hH]
    simpa using h4
  have Z0 : ZVar Qc U (H + 2) (fun _ => 0) 0 := by
    have := (zcs_zero (Qc := Qc) ((w.alloc (.cells ca 59)).alloc (.cells cb 59))).box
    rw [← hU, ← hH]
    simpa using this
  have lA := (Array.getElem?_eq_some_iff.1 hrA).1; have lB := (Array.getElem?_eq_some_iff.1 hrB).1
  have HNe := Lib.hid (fun (wx : World) (hx : Ext U wx) => QNeg_nm cb y P E wx (h2.ext (E0.trans hx)) (by omega))
  have HAd := Lib.hid (fun (wx : World) (hx : Ext U wx) (cn : Array Value) (hn : RmA Qc wx cn (nNeg y) P E) => QAdd_nm ca cn x (nNeg y) P E wx (h1.ext (E0.trans hx)) hn hP hE (hL.grow (E0.trans hx).size))
  have hi1 := h1.info; have hi2 := h2.info
  have HU := Lib.hid hU; have HH := Lib.hid hH; have HZ0 := Lib.hid Z0; have HE0 := Lib.hid E0
  clear hU hH Z0 E0 h1 h2 hP hE
  go_enter Tryd.func80, Tryd.ntmps80
  go_upto_region 1 with fail
  rw [HU.out, HH.out]
  clear HU
  have hd0 : Ext U U.drew := Below.drew (Ext.refl _)
  refine wp_region_K 4 (fun w' => w'.heap[H]? = some (.cells ca 59 (0, 0)) ∧ w'.heap[H + 1]? = some (.cells cb 59 (0, 0))) (by kernel_rfl) ?_
  show anyK _ _ _ _ _ _ 5 #[false, false, false, false, false] _ _
  have hHeld : U.drew.heap[H]? = some (.cells ca 59 (0, 0)) ∧ U.drew.heap[H + 1]? = some (.cells cb 59 (0, 0)) := ⟨(hd0.block _ lA).trans hrA, (hd0.block _ lB).trans hrB⟩
  refine anyK_take (i := 0) (v := .agg ca) rfl (by kernel_rfl) (by kernel_rfl) (by kernel_rfl) (N := 5) (by kernel_rfl) (by kernel_rfl) (by kernel_rfl) (fun _ _ _ h => h) (Or.inl ⟨by rfl, ?_⟩) hHeld ?_
  · intro w hSw
    exact exec_load_row 59 _ rfl (H) rfl 59 _ (0, 0) _ hSw.1 Tryd.underlying59 rfl hi1
  show anyK _ _ _ _ _ _ _ _ (Act.put _ (some 5) _) _
  simp only [Act.put, List.setIfInBounds_toArray, List.set_cons_zero, List.set_cons_succ]
  refine anyK_take (i := 1) (v := .agg cb) rfl (by kernel_rfl) (by kernel_rfl) (by kernel_rfl) (N := 5) (by kernel_rfl) (by kernel_rfl) (by kernel_rfl) (fun _ _ _ h => h) (Or.inl ⟨by rfl, ?_⟩) hHeld ?_
  · intro w hSw
    exact exec_load_row 59 _ rfl (H + 1) rfl 59 _ (0, 0) _ hSw.2 Tryd.underlying59 rfl hi2
  show anyK _ _ _ _ _ _ _ _ (Act.put _ (some 6) _) _
  simp only [Act.put, List.setIfInBounds_toArray, List.set_cons_zero, List.set_cons_succ]
  clear hHeld
  refine anyK_one (i := 2) (by kernel_rfl) rfl (fun Kk hKk => ?_)
  go_simp
  (go_at_call 64; refine (HNe.out _ hd0).mono ?_; rintro e w1 ⟨cn, rfl, hn1, hxx⟩)
  have he1 := hd0.trans hxx
  go_wp2_with fail
  refine hKk.out _ _ (fun _ => ⟨(he1.block _ lA).trans hrA, (he1.block _ lB).trans hrB⟩) ?_
  clear hKk Kk hxx
  simp only [List.setIfInBounds_toArray, List.set_cons_zero, List.set_cons_succ]
  refine anyK_one (i := 3) (by kernel_rfl) rfl (fun Kk hKk => ?_)
  go_simp
  (go_at_call 60; refine (HAd.out w1 he1 cn hn1).mono ?_; rintro e w2 ⟨cr, z, rfl, hcr, hy, hxx⟩)
  have he2 := he1.trans hxx
  go_wp2_with fail
  refine hKk.out _ _ (fun _ => ⟨(he2.block _ lA).trans hrA, (he2.block _ lB).trans hrB⟩) ?_
  clear hKk Kk hxx
  simp only [List.setIfInBounds_toArray, List.set_cons_zero, List.set_cons_succ]
  obtain ⟨c1, hr1, hs1, hone, hinf, rr, hnm, hE'⟩ := fin_rm hcr.val (HZ0.out.ext he2) (HE0.out.trans he2) (by rw [HH.out]; omega)
  have Hend := Lib.hid (show RmA Qc (w2.setRow (H + 2) cr) cr z (P + E + 1) E ∧ EqN z (nAdd x (nNeg y)) ∧ Ext w (w2.setRow (H + 2) cr) from ⟨⟨hcr.anti, hcr.low, hcr.abs, hcr.down, hnm⟩, hy, hE'⟩)
  clear hnm hE' hcr hy
  refine anyK_one (i := 4) (by kernel_rfl) rfl (fun Kk hKk => ?_)
  refine stepK_storeR rfl rfl 59 _ _ rfl (H + 2) cr rfl rfl 59 _ hr1 hinf hs1 hone ?_
  refine hKk.out _ _ (fun h => Bool.noConfusion (show true = false from h)) ?_
  clear hKk Kk
  simp only [List.setIfInBounds_toArray, List.set_cons_zero, List.set_cons_succ]
  refine anyK_done (by kernel_rfl) ?_ _
  go_wp2_with fail
  refine bodyPost_ret (v := .agg cr) ?_ rfl ⟨_, _, rfl, Hend.out⟩
  exact results_cell_row rfl _ _ (H + 2) _ _ _ _ rfl rr Tryd.underlying59 rfl hinf
end Go.Proofs.YtlmfhopifggeaaaDoor
namespace Go.Proofs.YtlmfhopifggeaaaDoor
open Go.RowKit

theorem extN (w : World) (o : Obj) : Ext w (w.alloc o) := (Below.refl _ _).alloc (Nat.le_refl _) o
section
variable {P : Program} {md : Region.Mode} {ops : Array Oper} {Q : Exit → Act → World → Prop} {S : World → Prop}

theorem anyH_one {i : Nat} {o : Oper} {n : Nat} {l : Array Bool} {a : Act} {w : World} (hr : Region.ready md ops l = [i]) (ho : ops[i]? = some o)
    (h : ∀ K' : Act → World → Prop, Shut (∀ a w, S w → wpAnyH P md ops Q S n (l.setIfInBounds i true) a w → K' a w) → if Region.wanted o (yielded ops a.tmps) = true then Oper.wp P o a w K' Q else K' (a.put o.dst undef) w) :
    wpAnyH P md ops Q S (n + 1) l a w := by
  refine ⟨fun h0 => (by rw [hr] at h0; cases h0), fun j hj => ?_⟩
  rw [hr] at hj
  rcases List.mem_singleton.1 hj with rfl
  exact wpOp_step ho (fun K' hK => h K' (fun a w hS hW => hK a w ⟨hS, hW⟩))

/-- Operation j makes a variable of type ty that holds z, and lays its place into slot d. -/
def IsAlloc (P : Program) (ops : Array Oper) (j d : Nat) (ty : TypeId) (z : Array Value) : Prop :=
  ∃ o, ops[j]? = some o ∧ o.dst = some d ∧ (∀ a : Act, Region.wanted o (yielded ops a.tmps) = true) ∧ ∀ (a : Act) (w : World), (execOp a.eval o).run P w = .ok (.value (.pointer (some ⟨w.heap.size, 0, none⟩))) (w.alloc (.cells z ty))

theorem wpOp_alloc {j d : Nat} {ty : TypeId} {z : Array Value} (hA : IsAlloc P ops j d ty z) {K : Act → World → Prop} {a : Act} {w : World} (h : K (a.put (some d) (.pointer (some ⟨w.heap.size, 0, none⟩))) (w.alloc (.cells z ty))) : wpOp P ops Q j K a w := by
  obtain ⟨o, ho, hd, hw, hrun⟩ := hA
  refine wpOp_step ho fun K' hK => ?_
  rw [if_pos (hw a)]
  unfold Oper.wp
  rw [hrun, Oper.upon_value, hd]
  exact hK _ _ h
theorem wpOp_call {i : Nat} {o : Oper} {a : Act} {w : World} (ho : ops[i]? = some o) (hw : Region.wanted o (yielded ops a.tmps) = true) {f : FuncId} {args : Array Value}
    (hrun : (execOp a.eval o).run P w = .ok (.enter f args) w) {R : Value → World → Prop} (hc : Calls P f args w fun e w' => ∃ v, e = .returned v ∧ R v w') {K : Act → World → Prop} (h : ∀ v w', R v w' → K (a.put o.dst v) w') : wpOp P ops Q i K a w := by
  refine wpOp_step ho fun K' hK => ?_
  rw [if_pos hw]
  unfold Oper.wp
  rw [hrun, Oper.upon_enter]
  refine hc.mono ?_
  rintro e w' ⟨v, rfl, hv⟩
  exact hK _ _ (h v w' hv)

/-- A new variable. -/
def NewV (W0 w : World) (ty : TypeId) (z : Array Value) (D : Nat) : Prop := W0.heap.size ≤ D ∧ w.heap[D]? = some (.cells z ty (0, 0))
theorem NewV.ext {W0 w w' : World} {ty : TypeId} {z : Array Value} {D : Nat} (h : NewV W0 w ty z D) (k : Ext w w') : NewV W0 w' ty z D := ⟨h.1, (k.block _ (Array.getElem?_eq_some_iff.1 h.2).1).trans h.2⟩
theorem newV_alloc {W0 w : World} (h : Ext W0 w) (ty : TypeId) (z : Array Value) : NewV W0 (w.alloc (.cells z ty)) ty z w.heap.size := ⟨h.size, heap_alloc_new w _⟩
abbrev ptrV (D : Nat) : Value := .pointer (some ⟨D, 0, none⟩)

/-- One variable is made at some time. -/
def Flo1 (P : Program) (md : Region.Mode) (ops : Array Oper) (Q : Exit → Act → World → Prop) (S : World → Prop) (W0 : World) (ty : TypeId) (z : Array Value) (n : Nat) (l : Bool → Array Bool) (fr : Value → Act) (w : World) : Prop :=
  ∀ wx, Ext w wx → wpAnyH P md ops Q S (n + 1) (l false) (fr undef) wx ∧ ∀ D, NewV W0 wx ty z D → wpAnyH P md ops Q S n (l true) (fr (ptrV D)) wx
theorem Flo1.start {W0 w : World} {ty : TypeId} {z : Array Value} {n : Nat} {l : Bool → Array Bool} {fr : Value → Act} (h : Flo1 P md ops Q S W0 ty z n l fr w) : wpAnyH P md ops Q S (n + 1) (l false) (fr undef) w := (h w (Ext.refl _)).1
/-- A call comes up; or the variable is made. -/
theorem Flo1.call {W0 w : World} {ty : TypeId} {z : Array Value} {n : Nat} {l : Bool → Array Bool} {fr : Value → Act} {j d : Nat} (hA : IsAlloc P ops j d ty z) (hS : ∀ w', Ext W0 w' → S w') (hw : Ext W0 w) (i : Nat) {o : Oper} (ho : ops[i]? = some o)
    (hr : ∀ p, Region.ready md ops (l p) = i :: (if p then [] else [j])) (hl : (l false).setIfInBounds j true = l true) (hfr : ∀ t v, (fr t).put (some d) v = fr v)
    (hwa : ∀ t, Region.wanted o (yielded ops (fr t).tmps) = true) (f : FuncId) (args : Array Value) (hrun : ∀ t wx, (execOp (fr t).eval o).run P wx = .ok (.enter f args) wx)
    {R : Value → World → Prop} (hc : ∀ wx, Ext w wx → Calls P f args wx fun e w' => ∃ v, e = .returned v ∧ R v w' ∧ Ext wx w') (l' : Bool → Array Bool) (hl' : ∀ p, (l p).setIfInBounds i true = l' p) (fr' : Value → Value → Act) (hf' : ∀ v t, (fr t).put o.dst v = fr' v t)
    (next : ∀ v w', R v w' → Ext w w' → Flo1 P md ops Q S W0 ty z n l' (fr' v) w') : Flo1 P md ops Q S W0 ty z (n + 1) l fr w := by
  have two : ∀ wx, Ext w wx → ∀ D, NewV W0 wx ty z D → wpAnyH P md ops Q S (n + 1) (l true) (fr (ptrV D)) wx := fun wx hx D hD => by
    have hr1 : Region.ready md ops (l true) = [i] := hr true
    refine ⟨fun h0 => (by rw [hr1] at h0; cases h0), fun t ht => ?_⟩
    rw [hr1] at ht
    rcases List.mem_singleton.1 ht with rfl
    refine wpOp_call ho (hwa _) (hrun _ _) (hc wx hx) fun v w' ⟨hv, hx'⟩ => ?_
    rw [hl', hf']
    exact ⟨hS _ ((hw.trans hx).trans hx'), (next v w' hv (hx.trans hx') w' (Ext.refl _)).2 D (hD.ext hx')⟩
  intro wx hx
  refine ⟨?_, two wx hx⟩
  have hr0 : Region.ready md ops (l false) = [i, j] := hr false
  refine ⟨fun h0 => (by rw [hr0] at h0; cases h0), fun t ht => ?_⟩
  rw [hr0] at ht
  rcases List.mem_cons.1 ht with rfl | ht
  · refine wpOp_call ho (hwa _) (hrun _ _) (hc wx hx) fun v w' ⟨hv, hx'⟩ => ?_
    rw [hl', hf']
    exact ⟨hS _ ((hw.trans hx).trans hx'), (next v w' hv (hx.trans hx') w' (Ext.refl _)).1⟩
  · rcases List.mem_singleton.1 ht with rfl
    refine wpOp_alloc hA ?_
    rw [hl, hfr]
    have he := extN wx (.cells z ty)
    exact ⟨hS _ ((hw.trans hx).trans he), two _ (hx.trans he) _ (newV_alloc (hw.trans hx) ty z)⟩
/-- An operation that makes no memory is taken first. -/
theorem Flo1.take {W0 w : World} {ty : TypeId} {z : Array Value} {n : Nat} {l : Bool → Array Bool} {fr : Value → Act} (hS : ∀ w', Ext W0 w' → S w') (hw : Ext W0 w) (i : Nat) {o : Oper} (v : Value) (ho : ops[i]? = some o) (hs : Region.noSelect ops = true)
    (hf : ∀ p, Region.free md ops (l p) i = true) (hr : ∀ p, (Region.ready md ops (l p)).contains i = true) (hQ : ∀ c a w, Q (.panic c) (a.put o.dst v) w → Q (.panic c) a w) (hy : ∀ t, YieldsIf P ops S o v (fr t))
    (l' : Bool → Array Bool) (hl' : ∀ p, (l p).setIfInBounds i true = l' p) (fr' : Value → Act) (hf' : ∀ t, (fr t).put o.dst v = fr' t)
    (next : Flo1 P md ops Q S W0 ty z n l' fr' w) : Flo1 P md ops Q S W0 ty z (n + 1) l fr w := fun wx hx =>
  ⟨wpAnyH_take ho hs (hf _) (hr _) hQ (hy _) (hS _ (hw.trans hx)) (by rw [hl', hf']; exact (next wx hx).1), fun D hD => wpAnyH_take ho hs (hf _) (hr _) hQ (hy _) (hS _ (hw.trans hx)) (by rw [hl', hf']; exact (next wx hx).2 D hD)⟩
/-- Nothing but the variable is left, or what waits for it. -/
theorem Flo1.done {W0 w : World} {ty : TypeId} {z : Array Value} {n : Nat} {l : Bool → Array Bool} {fr : Value → Act} {j d : Nat} (hA : IsAlloc P ops j d ty z) (hS : ∀ w', Ext W0 w' → S w') (hw : Ext W0 w)
    (hr : Region.ready md ops (l false) = [j]) (hl : (l false).setIfInBounds j true = l true) (hfr : ∀ t v, (fr t).put (some d) v = fr v)
    (h : ∀ wx, Ext w wx → ∀ D, NewV W0 wx ty z D → wpAnyH P md ops Q S n (l true) (fr (ptrV D)) wx) : Flo1 P md ops Q S W0 ty z n l fr w := by
  intro wx hx
  refine ⟨?_, h wx hx⟩
  refine ⟨fun h0 => (by rw [hr] at h0; cases h0), fun t ht => ?_⟩
  rw [hr] at ht
  rcases List.mem_singleton.1 ht with rfl
  refine wpOp_alloc hA ?_
  rw [hl, hfr]
  have he := extN wx (.cells z ty)
  exact ⟨hS _ ((hw.trans hx).trans he), h _ (hx.trans he) _ (newV_alloc (hw.trans hx) ty z)⟩

end
end Go.Proofs.YtlmfhopifggeaaaDoor
