/-
  CircOwns: its walk. A circuit that was handed in, opened: its operations and their lists as they lie in memory. A list of ints that was handed in, opened. The table of kinds, as it is laid; what is asked behind a call that leaves all that lay there as it was.
-/
import Derived.Test.YtapolidgocfbjaaDoorProg
import Derived.Test.YtapolidgocfbjaaDoorRows
import Derived.BigQuiet
import Derived.Carry
import Derived.ChangeSame
import Derived.ChangeShapes
import Derived.Deep.AppendLies
import Derived.Deep.Cut
import Derived.Deep.CutBlock
import Derived.Deep.CutRange
import Derived.Deep.LoopGhost
import Derived.Deep.QuietTactic
import Derived.Deep.RegionHeld3
import Derived.Deep.Slices
import Derived.Defers
import Derived.FnData
import Derived.Laws.AppendOwnNone
import Derived.Laws.Bits64b
import Derived.Laws.Concat
import Derived.Laws.CopyOwn
import Derived.Laws.IdiomStrings
import Derived.Laws.ResultCell
import Derived.Lib.AppendStr
import Derived.Lib.AppendZeros
import Derived.Lib.AppendZerosOnto
import Derived.Lib.BitFns
import Derived.Lib.Hide
import Derived.Lib.ItoaMem
import Derived.Lib.ItoaNum
import Derived.Lib.Strings
import Derived.Maps.AppendAt
import Derived.OpenShut
import Derived.OwnWalk
import Derived.Recover
import Derived.Shelf.LaysM
import Derived.Shelf.Strconv.Itoa0
import Derived.Shelf.Strconv.Itoa1
import Derived.Shelf.Strconv.Itoa2
import Derived.Shelf.Strconv.Itoa3
import Derived.Shelf.Strings.Builder1
import Derived.Shelf.Strings.BuilderF
import Derived.Shelf.Strings.BuilderK
import Derived.SizedLaws
import Derived.Stop.LaidErr
import Derived.WalkKit
import Derived.WalkLawsBesides
import Derived.WalkSpells
import Derived.Test.YtapolidgocfbjaaDoorS00Ce
import Derived.Test.YtapolidgocfbjaaDoorS01Cj
import Derived.Test.YtapolidgocfbjaaDoorShelf
import Derived.Test.YtapolidgocfbjaaDoorS03Cq
import Derived.Test.YtapolidgocfbjaaDoorS04Jc
import Derived.Test.YtapolidgocfbjaaDoorS05Gb
import Derived.Test.YtapolidgocfbjaaDoorS06Ke
import Derived.Test.YtapolidgocfbjaaDoorS07Kf
import Derived.Test.YtapolidgocfbjaaDoorS08Kd
import Derived.Test.YtapolidgocfbjaaDoorS09Km
import Derived.Test.YtapolidgocfbjaaDoorS10Ku
import Derived.Test.YtapolidgocfbjaaDoorS11Kv
import Derived.Test.YtapolidgocfbjaaDoorS12Kq
import Derived.Test.YtapolidgocfbjaaDoorS13La
namespace Go.Proofs.YtapolidgocfbjaaDoor
open Go.RowKit

set_option maxHeartbeats 16000000 in
set_option maxRecDepth 100000 in
theorem owns_walk (c : Gci) (ao : Option Addr) (n cp : Nat) (tl : List Int) (ta : Option Addr) (tn tc : Nat) (m : Int) (w : World) (h : OpsAt w ao n c.ops) (hn : n ≤ cp) (hcp : cp ≤ 9223372036854775807) (hbn : n * 80 ≤ 140737488355328) (hbl : ∀ g ∈ c.ops, g.ctl.length * 8 ≤ 140737488355328 ∧ g.cnd.length * 8 ≤ 140737488355328)
    (ht : IntsAt w ta tn tl) (htc : tn ≤ tc) (htm : tc ≤ 9223372036854775807) (hS : Shp w) :
    Calls Tryd.prog 5 #[.agg #[.int .i64 c.qubits, .int .i64 c.bits, .slice ao n cp], .slice ta tn tc, .int .i64 m] w fun e w' => e = .returned (.bool true) ∧ Ext w w' := by
  have HCc := Lib.hid (fun wx (hx : Ext w wx) => CopyCircuit_N c ao n cp wx (h.ext hx) hbn hbl)
  have HI0 := Lib.hid (fun a1 c1 wx (hx : Ext w wx) b (h1 : OpsN wx b (.slice a1 n c1) c.ops) => Inverse_U c a1 n c1 wx h1.at.2.2.2 h1.at.2.1 h1.at.2.2.1 (hS.ext hx))
  have HIr0 := Lib.hid (fun wx (hx : Ext w wx) => RInverse_U c ao n cp wx (h.ext hx) hn hcp)
  have HPw0 := Lib.hid (fun a1 c1 wx (hx : Ext w wx) b (h1 : OpsN wx b (.slice a1 n c1) c.ops) => Power_U c a1 n c1 wx h1.at.2.2.2 h1.at.2.1 h1.at.2.2.1 2 (hS.ext hx) (by decide) (by decide))
  have HPr0 := Lib.hid (fun wx (hx : Ext w wx) => RPower_U c ao n cp wx (h.ext hx) hn hcp 2 (by decide) (by decide))
  have HT0 := Lib.hid (fun a1 c1 wx (hx : Ext w wx) b (h1 : OpsN wx b (.slice a1 n c1) c.ops) => Then_U c c a1 n c1 a1 n c1 wx h1.at.2.2.2 h1.at.2.2.2 h1.at.2.1 h1.at.2.2.1 h1.at.2.1 h1.at.2.2.1 h1.nil_cap h1.nil_cap (hS.ext hx))
  have HTr0 := Lib.hid (fun wx (hx : Ext w wx) => RThen_U c c ao n cp ao n cp wx (h.ext hx) (h.ext hx) hn hcp hn hcp)
  have HM0 := Lib.hid (fun a1 c1 wx (hx : Ext w wx) b (h1 : OpsN wx b (.slice a1 n c1) c.ops) => Move_U c a1 n c1 tl ta tn tc m wx h1.at.2.2.2 h1.at.2.1 h1.at.2.2.1 (ht.ext hx) htc htm (hS.ext hx))
  have HMr0 := Lib.hid (fun wx (hx : Ext w wx) => RMove_U c ao n cp tl ta tn tc m wx (h.ext hx) hn hcp (ht.ext hx) htc htm)
  have HBg := Lib.hid (fun wx (hx : Ext w wx) => circBegun_any wx (hS.ext hx))
  have HSc := Lib.hid (fun a1 c1 wx (hx : Ext w wx) b (h1 : OpsN wx b (.slice a1 n c1) c.ops) => sameCircuit_any c a1 n c1 ao cp wx h1.at.2.2.2 (h.ext hx) h1.at.2.1 h1.at.2.2.1 hn hcp)
  have FI := Lib.hid (invM_fit c); have FP := Lib.hid (powM_fit c 2); have FT := Lib.hid (thnM_fit c c); have FM := Lib.hid (movM_fit c tl m)
  obtain ⟨R0, hR0⟩ : ∃ P, invM c = P := ⟨_, rfl⟩
  obtain ⟨R1, hR1⟩ : ∃ P, powM c 2 = P := ⟨_, rfl⟩
  obtain ⟨R2, hR2⟩ : ∃ P, thnM c c = P := ⟨_, rfl⟩
  obtain ⟨R3, hR3⟩ : ∃ P, movM c tl m = P := ⟨_, rfl⟩
  rw [hR0] at HI0 HIr0 FI
  rw [hR1] at HPw0 HPr0 FP
  rw [hR2] at HT0 HTr0 FT
  rw [hR3] at HM0 HMr0 FM
  obtain ⟨qa, ba, ops⟩ := c
  unfold Ans at HI0 HIr0 HPw0 HPr0 HT0 HTr0 HM0 HMr0
  simp only at HCc HI0 HIr0 HPw0 HPr0 HT0 HTr0 HM0 HMr0 HSc ⊢
  clear hR0 hR1 hR2 hR3 h hbl hbn hS ht
  obtain ⟨H, hH⟩ : ∃ H, w.heap.size = H := ⟨_, rfl⟩
  obtain ⟨A1, hA1⟩ : ∃ A1, w.alloc (.cells #[.int .i64 qa, .int .i64 ba, .slice ao n cp] 24) = A1 := ⟨_, rfl⟩
  have E0 : Ext w A1 := by rw [← hA1]; exact ext_al _ _
  have bC : CiB A1 H qa ba ao n cp := by rw [← hA1, ← hH]; exact ⟨heap_alloc_new w _⟩
  have m0 := bC.x0; have m1 := bC.x1; have m2 := bC.x2
  rw [← hA1] at m0 m1 m2
  have HA := Lib.hid hA1; have HE0 := Lib.hid E0; have HC0 := Lib.hid bC
  clear hA1 bC E0
  go_enter Tryd.func5, Tryd.ntmps5
  go_wp2_with fail
  rw [HA.out]
  refine (HCc.out A1 HE0.out).mono ?_
  rintro e w1 ⟨⟨a1, c1, rfl, hO1⟩, hx1⟩
  have E1 := ext_al w1 (.cells #[.int .i64 qa, .int .i64 ba, .slice a1 n c1] 24)
  have bG : CiB (w1.alloc (.cells #[.int .i64 qa, .int .i64 ba, .slice a1 n c1] 24)) w1.heap.size qa ba a1 n c1 := ⟨heap_alloc_new w1 _⟩
  obtain ⟨bG0, hbG0⟩ : ∃ y, A1.heap.size = y := ⟨_, rfl⟩
  rw [hbG0] at hO1
  obtain ⟨B0, hB0⟩ : ∃ y, w1.heap.size = y := ⟨_, rfl⟩
  have hGo1 : OpsP (fun b => B0 ≤ b) (w1.alloc (.cells #[.int .i64 qa, .int .i64 ba, .slice a1 n c1] 24)) bG0 (.slice a1 n c1) ops := (hO1.p E1).mono (fun k _ hk => Or.inr (by rw [hB0]; exact hk))
  have HE1 := Lib.hid ((HE0.out.trans hx1).trans E1); have HC1 := Lib.hid ((HC0.out.ext hx1).ext E1); have HG1 := Lib.hid bG; have HGo1 := Lib.hid hGo1
  have hlo : H < w1.heap.size := (HC0.out.ext hx1).lt
  have Hs1 := Lib.hid (show B0 + 1 ≤ (w1.alloc (.cells #[.int .i64 qa, .int .i64 ba, .slice a1 n c1] 24)).heap.size by rw [← hB0]; simp)
  rw [hB0] at HG1 hlo
  have HI := Lib.hid (HI0.out a1 c1); have HPw := Lib.hid (HPw0.out a1 c1); have HT := Lib.hid (HT0.out a1 c1); have HM := Lib.hid (HM0.out a1 c1); have HSg := Lib.hid (HSc.out a1 c1)
  have HB0 := Lib.hid hB0; have HwB0 := Lib.hid (show w.heap.size ≤ B0 by rw [hH]; omega)
  clear hx1 hO1 E1 bG HC0 HE0 m0 m1 m2 hGo1 hbG0 HI0 HPw0 HT0 HM0 HSc HCc
  go_wp2_with fail
  generalize w1.alloc (.cells #[.int .i64 qa, .int .i64 ba, .slice a1 n c1] 24) = V1 at *
  rw [HB0.out] at *
  clear hB0
  go_loopg [8, 9, 10, 11, 12, 15] 4 (fun kk s8 s9 s10 s11 s12 s15 wx => ∃ k : Nat, s15 = .int .i64 (k : Int) ∧ k ≤ 4 ∧ 4 - k = kk ∧ CiB wx H qa ba ao n cp ∧ CiB wx B0 qa ba a1 n c1 ∧ OpsP (fun b => B0 ≤ b) wx bG0 (.slice a1 n c1) ops ∧ Ext w wx ∧ B0 + 1 ≤ wx.heap.size)
  case atStart => exact ⟨0, rfl, by omega, by omega, HC1.out, HG1.out, HGo1.out, HE1.out, Hs1.out⟩
  case round =>
    clear HC1 HG1 HGo1 HE1 Hs1
    obtain ⟨k, rfl, hk4, hkk, bC, bG, hGo, hE, hs0⟩ := hrel
    have HC := Lib.hid bC; have HG := Lib.hid bG; have HGo := Lib.hid hGo; have HE := Lib.hid hE; have Hkk := Lib.hid hkk; have Hs0 := Lib.hid hs0
    clear bC bG hGo hE hkk hs0
    by_cases hkE : k = 4
    · subst hkE
      go_wp2_with fail
      refine (HBg.out wr HE.out).mono ?_
      rintro e w2 ⟨rfl, hx2⟩
      have HE2 := Lib.hid (HE.out.trans hx2)
      clear hx2
      go_wp2_with fail
      go_ret
      exact ⟨rfl, HE2.out⟩
    have q1 : (k : Int) < 4 := by omega
    have q1' : decide ((k : Int) < 4) = true := dt q1
    have Hk3 := Lib.hid (show k = 0 ∨ k = 1 ∨ k = 2 ∨ k = 3 by omega)
    have Hk1 := Lib.hid (show k + 1 ≤ 4 by omega)
    obtain ⟨wo, rfl⟩ : ∃ wo : World, wo = wr := ⟨_, rfl⟩
    clear hkE hk4
    go_wp2_with fail
    clear q1 q1'
    go_loopg [9, 10, 11, 12, 18] 2 (fun kk s9 s10 s11 s12 s18 wx => ∃ j : Nat, s18 = .int .i64 (j : Int) ∧ j ≤ 2 ∧ 2 - j = kk ∧ CiB wx H qa ba ao n cp ∧ CiB wx B0 qa ba a1 n c1 ∧ OpsP (fun b => B0 ≤ b) wx bG0 (.slice a1 n c1) ops ∧ Ext w wx ∧ B0 + 1 ≤ wx.heap.size)
    case atStart => exact ⟨0, rfl, by omega, by omega, HC.out, HG.out, HGo.out, HE.out, Hs0.out⟩
    case round =>
      clear HC HG HGo HE Hs0
      obtain ⟨j, rfl, hj2, hjk, bC, bG, hGo, hE, hs0⟩ := hrel
      by_cases hjE : j = 2
      · subst hjE
        have HC := Lib.hid bC; have HG := Lib.hid bG; have HGo := Lib.hid hGo; have HE := Lib.hid hE; have Hs0 := Lib.hid hs0
        clear bC bG hGo hE hs0 hjk hj2
        have wk : IntKind.i64.wrap ((k : Int) + 1) = ((k + 1 : Nat) : Int) := by have := Hk1.out; rw [IntKind.wrap_i64]; omega
        go_wp2_with fail
        go_roundg (4 - (k + 1))
        case measure => have := Hkk.out; have := Hk1.out; omega
        case rel => exact ⟨k + 1, rfl, Hk1.out, rfl, HC.out, HG.out, HGo.out, HE.out, Hs0.out⟩
      have q1 : (j : Int) < 2 := by omega
      have q1' : decide ((j : Int) < 2) = true := dt q1
      have Hj1 := Lib.hid (show j + 1 ≤ 2 by omega); have Hjk := Lib.hid hjk
      obtain ⟨X, hX⟩ : ∃ y, wr.heap.size = y := ⟨_, rfl⟩
      obtain ⟨U1, hU1⟩ : ∃ U, wr.alloc (.cells #[.int .i64 0, .int .i64 0, .slice none 0 0] 24) = U := ⟨_, rfl⟩
      obtain ⟨U2, hU2⟩ : ∃ U, U1.alloc (.cells #[.int .i64 0, .int .i64 0, .slice none 0 0] 24) = U := ⟨_, rfl⟩
      obtain ⟨U3, hU3⟩ : ∃ U, U2.alloc (.cells #[.int .i64 0, .int .i64 0] 28) = U := ⟨_, rfl⟩
      obtain ⟨V, hU4⟩ : ∃ U, U3.alloc (.cells #[.int .i64 0, .int .i64 0] 28) = U := ⟨_, rfl⟩
      have s1 : U1.heap.size = X + 1 := by rw [← hU1, ← hX]; simp
      have s2 : U2.heap.size = X + 2 := by rw [← hU2]; simp; omega
      have s3 : U3.heap.size = X + 3 := by rw [← hU3]; simp; omega
      have s4 : V.heap.size = X + 4 := by rw [← hU4]; simp; omega
      have x1 : Ext wr U1 := by rw [← hU1]; exact ext_al _ _
      have x2 : Ext U1 U2 := by rw [← hU2]; exact ext_al _ _
      have x3 : Ext U2 U3 := by rw [← hU3]; exact ext_al _ _
      have x4 : Ext U3 V := by rw [← hU4]; exact ext_al _ _
      have bX : CiB V X 0 0 none 0 0 := by
        have : CiB U1 X 0 0 none 0 0 := by rw [← hU1, ← hX]; exact ⟨heap_alloc_new wr _⟩
        exact ((this.ext x2).ext x3).ext x4
      have bY : CiB V (X + 1) 0 0 none 0 0 := by
        have : CiB U2 (X + 1) 0 0 none 0 0 := by rw [← hU2, ← s1]; exact ⟨heap_alloc_new U1 _⟩
        exact (this.ext x3).ext x4
      have bF : FtB V (X + 2) 0 0 := by
        have : FtB U3 (X + 2) 0 0 := by rw [← hU3, ← s2]; exact ⟨heap_alloc_new U2 _⟩
        exact this.ext x4
      have bQ : FtB V (X + 3) 0 0 := by rw [← hU4, ← s3]; exact ⟨heap_alloc_new U3 _⟩
      have xV := ((x1.trans x2).trans x3).trans x4
      have hV : (((wr.alloc (.cells #[.int .i64 0, .int .i64 0, .slice none 0 0] 24)).alloc (.cells #[.int .i64 0, .int .i64 0, .slice none 0 0] 24)).alloc (.cells #[.int .i64 0, .int .i64 0] 28)).alloc (.cells #[.int .i64 0, .int .i64 0] 28) = V := by rw [hU1, hU2, hU3, hU4]
      have HC := Lib.hid (bC.ext xV); have HG := Lib.hid (bG.ext xV); have HGo := Lib.hid (hGo.ext xV); have HE := Lib.hid (hE.trans xV); have HX := Lib.hid bX; have HY := Lib.hid bY; have HF := Lib.hid bF; have HQ := Lib.hid bQ; have HV := Lib.hid hV
      have hB0X : B0 + 1 ≤ X := by rw [← hX]; exact hs0
      have HBx := Lib.hid (show X + 4 ≤ V.heap.size by rw [s4]; exact Nat.le_refl _)
      have hwX : w.heap.size ≤ X := by have := HwB0.out; omega
      clear bC bG hGo hE hs0 hjk hj2 hjE hU1 hU2 hU3 hU4 s1 s2 s3 s4 x1 x2 x3 x4 bX bY bF bQ xV hV
      go_upto_region 9 with fail
      rw [HV.out]
      clear hX q1 q1'
      go_upto_block 4 with fail
      go_cut [18] from 18 to 93 (fun s18 wx => s18 = .int .i64 (j : Int) ∧ ∃ (ru rv rq rb : Int) (rops : List Gop) (ax : Option Addr) (mx cx : Nat) (ay : Option Addr) (my cy Bx By : Nat), CiB wx X rq rb ax mx cx ∧ FtB wx (X + 2) ru rv ∧ CiB wx (X + 1) rq rb ay my cy ∧ FtB wx (X + 3) ru rv ∧ OpsP (fun b => b < Bx ∨ By ≤ b) wx Bx (.slice ax mx cx) rops ∧ OpsN wx By (.slice ay my cy) rops ∧ MkFit rops ∧ X + 4 ≤ Bx ∧ Bx ≤ By ∧ CiB wx H qa ba ao n cp ∧ CiB wx B0 qa ba a1 n c1 ∧ OpsP (fun b => B0 ≤ b) wx bG0 (.slice a1 n c1) ops ∧ Ext w wx)
      case first =>
        rcases Hk3.out with hk0 | hk1 | hk2 | hk3
        · subst hk0
          have e0 : (((0 : Nat) : Int) == 0) = true := by decide
          obtain ⟨⟨⟨ru, rv⟩, rq, rb, rops⟩, hr⟩ : ∃ r, R0 = r := ⟨_, rfl⟩
          have HPc := HI; have HRc := HIr0; have HFt := FI
          rw [hr] at HPc HRc HFt
          simp only at HPc HRc HFt
          clear hr
          have l0 := HG.out.x0; have l1 := HG.out.x1; have l2 := HG.out.x2
          go_wp2_with fail
          refine (HPc.out V HE.out _ HGo.out.n).mono ?_
          rintro e w2 ⟨⟨aa, ma, ca, rfl, hOa⟩, hxa⟩
          clear l0 l1 l2
          have bXa := HX.out.ext hxa; have bFa := HF.out.ext hxa
          have r0 := bXa.x0; have r1 := bXa.x1; have r2 := bXa.x2; have g0 := bXa.f 0; have g1 := bXa.f 1; have g2 := bXa.f 2
          have hP1 : Only X w2 (((w2.setCell ⟨X, 0, none⟩ (.int .i64 rq)).setCell ⟨X, 1, none⟩ (.int .i64 rb)).setCell ⟨X, 2, none⟩ (.slice aa ma ca)) := (((Only.refl _ _).setCell _ _).setCell _ _).setCell _ _
          have bFb := bFa.kept hP1 (by omega)
          have f0 := bFa.x0; have f1 := bFa.x1; have q0 := bFa.f 0; have q1 := bFa.f 1
          have hP2 := only2 (((w2.setCell ⟨X, 0, none⟩ (.int .i64 rq)).setCell ⟨X, 1, none⟩ (.int .i64 rb)).setCell ⟨X, 2, none⟩ (.slice aa ma ca)) ((X + 2)) (.int .i64 ru) (.int .i64 rv)
          have HCn := Lib.hid (((HC.out.ext hxa).kept hP1 (by omega)).kept hP2 (by omega)); have HGn := Lib.hid (((HG.out.ext hxa).kept hP1 (by omega)).kept hP2 (by omega))
          have HOn := Lib.hid (((HY.out.ext hxa).kept hP1 (by omega)).kept hP2 (by omega)); have HFOn := Lib.hid (((HQ.out.ext hxa).kept hP1 (by omega)).kept hP2 (by omega))
          have HXn := Lib.hid ((((bXa.set0 rq).set1 rb).set2 aa ma ca).kept hP2 (by omega)); have HFn := Lib.hid (bFb.put ru rv)
          have HGon := Lib.hid (((HGo.out.ext hxa).far bXa.row (by decide) (by decide) hP1).far bFb.row (by decide) (by decide) hP2)
          have HEn := Lib.hid (ext_only (ext_only (HE.out.trans hxa) hP1 (by omega)) hP2 (by omega))
          have Hsz := Lib.hid (show (((((w2.setCell ⟨X, 0, none⟩ (.int .i64 rq)).setCell ⟨X, 1, none⟩ (.int .i64 rb)).setCell ⟨X, 2, none⟩ (.slice aa ma ca)).setCell ⟨(X + 2), 0, none⟩ (.int .i64 ru)).setCell ⟨(X + 2), 1, none⟩ (.int .i64 rv)).heap.size = w2.heap.size by rw [hP2.size, hP1.size])
          have HP := Lib.hid (((hOa.p (Ext.refl _)).far bXa.row (by decide) (by decide) hP1).far bFb.row (by decide) (by decide) hP2)
          have HBy := Lib.hid (show V.heap.size ≤ w2.heap.size from hxa.size)
          clear hP1 hP2 bXa bFa bFb hOa hxa HC HG HX HF HY HQ HGo HE
          have HC := HCn; have HG := HGn; have HX := HXn; have HF := HFn; have HY := HOn; have HQ := HFOn; have HGo := HGon; have HE := HEn
          clear HCn HGn HXn HFn HOn HFOn HGon HEn
          go_upto_region 14 with fail
          generalize ((((w2.setCell ⟨X, 0, none⟩ (.int .i64 rq)).setCell ⟨X, 1, none⟩ (.int .i64 rb)).setCell ⟨X, 2, none⟩ (.slice aa ma ca)).setCell ⟨(X + 2), 0, none⟩ (.int .i64 ru)).setCell ⟨(X + 2), 1, none⟩ (.int .i64 rv) = V2 at *
          clear r0 r1 r2 g0 g1 g2 f0 f1 q0 q1
          have l0 := HC.out.x0; have l1 := HC.out.x1; have l2 := HC.out.x2
          go_wp2_with fail
          refine (HRc.out V2 HE.out).mono ?_
          rintro e w3 ⟨⟨ay, my, cy, rfl, hOa⟩, hxa⟩
          clear l0 l1 l2
          have bXa := HY.out.ext hxa; have bFa := HQ.out.ext hxa
          have r0 := bXa.x0; have r1 := bXa.x1; have r2 := bXa.x2; have g0 := bXa.f 0; have g1 := bXa.f 1; have g2 := bXa.f 2
          have hP1 : Only (X + 1) w3 (((w3.setCell ⟨(X + 1), 0, none⟩ (.int .i64 rq)).setCell ⟨(X + 1), 1, none⟩ (.int .i64 rb)).setCell ⟨(X + 1), 2, none⟩ (.slice ay my cy)) := (((Only.refl _ _).setCell _ _).setCell _ _).setCell _ _
          have bFb := bFa.kept hP1 (by omega)
          have f0 := bFa.x0; have f1 := bFa.x1; have q0 := bFa.f 0; have q1 := bFa.f 1
          have hP2 := only2 (((w3.setCell ⟨(X + 1), 0, none⟩ (.int .i64 rq)).setCell ⟨(X + 1), 1, none⟩ (.int .i64 rb)).setCell ⟨(X + 1), 2, none⟩ (.slice ay my cy)) ((X + 3)) (.int .i64 ru) (.int .i64 rv)
          have HCn := Lib.hid (((HC.out.ext hxa).kept hP1 (by omega)).kept hP2 (by omega)); have HGn := Lib.hid (((HG.out.ext hxa).kept hP1 (by omega)).kept hP2 (by omega))
          have HOn := Lib.hid (((HX.out.ext hxa).kept hP1 (by omega)).kept hP2 (by omega)); have HFOn := Lib.hid (((HF.out.ext hxa).kept hP1 (by omega)).kept hP2 (by omega))
          have HXn := Lib.hid ((((bXa.set0 rq).set1 rb).set2 ay my cy).kept hP2 (by omega)); have HFn := Lib.hid (bFb.put ru rv)
          have HGon := Lib.hid (((HGo.out.ext hxa).far bXa.row (by decide) (by decide) hP1).far bFb.row (by decide) (by decide) hP2)
          have HEn := Lib.hid (ext_only (ext_only (HE.out.trans hxa) hP1 (by omega)) hP2 (by omega))
          have Hsz3 := Lib.hid (show (((((w3.setCell ⟨(X + 1), 0, none⟩ (.int .i64 rq)).setCell ⟨(X + 1), 1, none⟩ (.int .i64 rb)).setCell ⟨(X + 1), 2, none⟩ (.slice ay my cy)).setCell ⟨(X + 3), 0, none⟩ (.int .i64 ru)).setCell ⟨(X + 3), 1, none⟩ (.int .i64 rv)).heap.size = w3.heap.size by rw [hP2.size, hP1.size])
          have HPn := Lib.hid (((HP.out.ext hxa).far bXa.row (by decide) (by decide) hP1).far bFb.row (by decide) (by decide) hP2)
          have HYo := Lib.hid ((hOa.far bXa.row (by decide) (by decide) hP1).far bFb.row (by decide) (by decide) hP2)
          clear hP1 hP2 bXa bFa bFb hOa hxa HC HG HY HQ HX HF HGo HE
          have HC := HCn; have HG := HGn; have HY := HXn; have HQ := HFn; have HX := HOn; have HF := HFOn; have HGo := HGon; have HE := HEn
          clear HCn HGn HXn HFn HOn HFOn HGon HEn
          clear HP
          go_wp2_with fail
          go_meet
          exact ⟨rfl, ru, rv, rq, rb, rops, aa, ma, ca, ay, my, cy, V.heap.size, w2.heap.size, HX.out, HF.out, HY.out, HQ.out, HPn.out, by have := HYo.out; rw [Hsz.out] at this; exact this, HFt.out, HBx.out, HBy.out, HC.out, HG.out, HGo.out, HE.out⟩
        · subst hk1
          have e0 : (((1 : Nat) : Int) == 0) = false := by decide
          have e1 : (((1 : Nat) : Int) == 1) = true := by decide
          obtain ⟨⟨⟨ru, rv⟩, rq, rb, rops⟩, hr⟩ : ∃ r, R1 = r := ⟨_, rfl⟩
          have HPc := HPw; have HRc := HPr0; have HFt := FP
          rw [hr] at HPc HRc HFt
          simp only at HPc HRc HFt
          clear hr
          have l0 := HG.out.x0; have l1 := HG.out.x1; have l2 := HG.out.x2
          go_wp2_with fail
          refine (HPc.out V HE.out _ HGo.out.n).mono ?_
          rintro e w2 ⟨⟨aa, ma, ca, rfl, hOa⟩, hxa⟩
          clear l0 l1 l2
          have bXa := HX.out.ext hxa; have bFa := HF.out.ext hxa
          have r0 := bXa.x0; have r1 := bXa.x1; have r2 := bXa.x2; have g0 := bXa.f 0; have g1 := bXa.f 1; have g2 := bXa.f 2
          have hP1 : Only X w2 (((w2.setCell ⟨X, 0, none⟩ (.int .i64 rq)).setCell ⟨X, 1, none⟩ (.int .i64 rb)).setCell ⟨X, 2, none⟩ (.slice aa ma ca)) := (((Only.refl _ _).setCell _ _).setCell _ _).setCell _ _
          have bFb := bFa.kept hP1 (by omega)
          have f0 := bFa.x0; have f1 := bFa.x1; have q0 := bFa.f 0; have q1 := bFa.f 1
          have hP2 := only2 (((w2.setCell ⟨X, 0, none⟩ (.int .i64 rq)).setCell ⟨X, 1, none⟩ (.int .i64 rb)).setCell ⟨X, 2, none⟩ (.slice aa ma ca)) ((X + 2)) (.int .i64 ru) (.int .i64 rv)
          have HCn := Lib.hid (((HC.out.ext hxa).kept hP1 (by omega)).kept hP2 (by omega)); have HGn := Lib.hid (((HG.out.ext hxa).kept hP1 (by omega)).kept hP2 (by omega))
          have HOn := Lib.hid (((HY.out.ext hxa).kept hP1 (by omega)).kept hP2 (by omega)); have HFOn := Lib.hid (((HQ.out.ext hxa).kept hP1 (by omega)).kept hP2 (by omega))
          have HXn := Lib.hid ((((bXa.set0 rq).set1 rb).set2 aa ma ca).kept hP2 (by omega)); have HFn := Lib.hid (bFb.put ru rv)
          have HGon := Lib.hid (((HGo.out.ext hxa).far bXa.row (by decide) (by decide) hP1).far bFb.row (by decide) (by decide) hP2)
          have HEn := Lib.hid (ext_only (ext_only (HE.out.trans hxa) hP1 (by omega)) hP2 (by omega))
          have Hsz := Lib.hid (show (((((w2.setCell ⟨X, 0, none⟩ (.int .i64 rq)).setCell ⟨X, 1, none⟩ (.int .i64 rb)).setCell ⟨X, 2, none⟩ (.slice aa ma ca)).setCell ⟨(X + 2), 0, none⟩ (.int .i64 ru)).setCell ⟨(X + 2), 1, none⟩ (.int .i64 rv)).heap.size = w2.heap.size by rw [hP2.size, hP1.size])
          have HP := Lib.hid (((hOa.p (Ext.refl _)).far bXa.row (by decide) (by decide) hP1).far bFb.row (by decide) (by decide) hP2)
          have HBy := Lib.hid (show V.heap.size ≤ w2.heap.size from hxa.size)
          clear hP1 hP2 bXa bFa bFb hOa hxa HC HG HX HF HY HQ HGo HE
          have HC := HCn; have HG := HGn; have HX := HXn; have HF := HFn; have HY := HOn; have HQ := HFOn; have HGo := HGon; have HE := HEn
          clear HCn HGn HXn HFn HOn HFOn HGon HEn
          go_upto_region 17 with fail
          generalize ((((w2.setCell ⟨X, 0, none⟩ (.int .i64 rq)).setCell ⟨X, 1, none⟩ (.int .i64 rb)).setCell ⟨X, 2, none⟩ (.slice aa ma ca)).setCell ⟨(X + 2), 0, none⟩ (.int .i64 ru)).setCell ⟨(X + 2), 1, none⟩ (.int .i64 rv) = V2 at *
          clear r0 r1 r2 g0 g1 g2 f0 f1 q0 q1
          have l0 := HC.out.x0; have l1 := HC.out.x1; have l2 := HC.out.x2
          go_wp2_with fail
          refine (HRc.out V2 HE.out).mono ?_
          rintro e w3 ⟨⟨ay, my, cy, rfl, hOa⟩, hxa⟩
          clear l0 l1 l2
          have bXa := HY.out.ext hxa; have bFa := HQ.out.ext hxa
          have r0 := bXa.x0; have r1 := bXa.x1; have r2 := bXa.x2; have g0 := bXa.f 0; have g1 := bXa.f 1; have g2 := bXa.f 2
          have hP1 : Only (X + 1) w3 (((w3.setCell ⟨(X + 1), 0, none⟩ (.int .i64 rq)).setCell ⟨(X + 1), 1, none⟩ (.int .i64 rb)).setCell ⟨(X + 1), 2, none⟩ (.slice ay my cy)) := (((Only.refl _ _).setCell _ _).setCell _ _).setCell _ _
          have bFb := bFa.kept hP1 (by omega)
          have f0 := bFa.x0; have f1 := bFa.x1; have q0 := bFa.f 0; have q1 := bFa.f 1
          have hP2 := only2 (((w3.setCell ⟨(X + 1), 0, none⟩ (.int .i64 rq)).setCell ⟨(X + 1), 1, none⟩ (.int .i64 rb)).setCell ⟨(X + 1), 2, none⟩ (.slice ay my cy)) ((X + 3)) (.int .i64 ru) (.int .i64 rv)
          have HCn := Lib.hid (((HC.out.ext hxa).kept hP1 (by omega)).kept hP2 (by omega)); have HGn := Lib.hid (((HG.out.ext hxa).kept hP1 (by omega)).kept hP2 (by omega))
          have HOn := Lib.hid (((HX.out.ext hxa).kept hP1 (by omega)).kept hP2 (by omega)); have HFOn := Lib.hid (((HF.out.ext hxa).kept hP1 (by omega)).kept hP2 (by omega))
          have HXn := Lib.hid ((((bXa.set0 rq).set1 rb).set2 ay my cy).kept hP2 (by omega)); have HFn := Lib.hid (bFb.put ru rv)
          have HGon := Lib.hid (((HGo.out.ext hxa).far bXa.row (by decide) (by decide) hP1).far bFb.row (by decide) (by decide) hP2)
          have HEn := Lib.hid (ext_only (ext_only (HE.out.trans hxa) hP1 (by omega)) hP2 (by omega))
          have Hsz3 := Lib.hid (show (((((w3.setCell ⟨(X + 1), 0, none⟩ (.int .i64 rq)).setCell ⟨(X + 1), 1, none⟩ (.int .i64 rb)).setCell ⟨(X + 1), 2, none⟩ (.slice ay my cy)).setCell ⟨(X + 3), 0, none⟩ (.int .i64 ru)).setCell ⟨(X + 3), 1, none⟩ (.int .i64 rv)).heap.size = w3.heap.size by rw [hP2.size, hP1.size])
          have HPn := Lib.hid (((HP.out.ext hxa).far bXa.row (by decide) (by decide) hP1).far bFb.row (by decide) (by decide) hP2)
          have HYo := Lib.hid ((hOa.far bXa.row (by decide) (by decide) hP1).far bFb.row (by decide) (by decide) hP2)
          clear hP1 hP2 bXa bFa bFb hOa hxa HC HG HY HQ HX HF HGo HE
          have HC := HCn; have HG := HGn; have HY := HXn; have HQ := HFn; have HX := HOn; have HF := HFOn; have HGo := HGon; have HE := HEn
          clear HCn HGn HXn HFn HOn HFOn HGon HEn
          clear HP
          go_wp2_with fail
          go_meet
          exact ⟨rfl, ru, rv, rq, rb, rops, aa, ma, ca, ay, my, cy, V.heap.size, w2.heap.size, HX.out, HF.out, HY.out, HQ.out, HPn.out, by have := HYo.out; rw [Hsz.out] at this; exact this, HFt.out, HBx.out, HBy.out, HC.out, HG.out, HGo.out, HE.out⟩
        · subst hk2
          have e0 : (((2 : Nat) : Int) == 0) = false := by decide
          have e1 : (((2 : Nat) : Int) == 1) = false := by decide
          have e2 : (((2 : Nat) : Int) == 2) = true := by decide
          obtain ⟨⟨⟨ru, rv⟩, rq, rb, rops⟩, hr⟩ : ∃ r, R2 = r := ⟨_, rfl⟩
          have HPc := HT; have HRc := HTr0; have HFt := FT
          rw [hr] at HPc HRc HFt
          simp only at HPc HRc HFt
          clear hr
          have l0 := HG.out.x0; have l1 := HG.out.x1; have l2 := HG.out.x2
          go_wp2_with fail
          refine (HPc.out V HE.out _ HGo.out.n).mono ?_
          rintro e w2 ⟨⟨aa, ma, ca, rfl, hOa⟩, hxa⟩
          clear l0 l1 l2
          have bXa := HX.out.ext hxa; have bFa := HF.out.ext hxa
          have r0 := bXa.x0; have r1 := bXa.x1; have r2 := bXa.x2; have g0 := bXa.f 0; have g1 := bXa.f 1; have g2 := bXa.f 2
          have hP1 : Only X w2 (((w2.setCell ⟨X, 0, none⟩ (.int .i64 rq)).setCell ⟨X, 1, none⟩ (.int .i64 rb)).setCell ⟨X, 2, none⟩ (.slice aa ma ca)) := (((Only.refl _ _).setCell _ _).setCell _ _).setCell _ _
          have bFb := bFa.kept hP1 (by omega)
          have f0 := bFa.x0; have f1 := bFa.x1; have q0 := bFa.f 0; have q1 := bFa.f 1
          have hP2 := only2 (((w2.setCell ⟨X, 0, none⟩ (.int .i64 rq)).setCell ⟨X, 1, none⟩ (.int .i64 rb)).setCell ⟨X, 2, none⟩ (.slice aa ma ca)) ((X + 2)) (.int .i64 ru) (.int .i64 rv)
          have HCn := Lib.hid (((HC.out.ext hxa).kept hP1 (by omega)).kept hP2 (by omega)); have HGn := Lib.hid (((HG.out.ext hxa).kept hP1 (by omega)).kept hP2 (by omega))
          have HOn := Lib.hid (((HY.out.ext hxa).kept hP1 (by omega)).kept hP2 (by omega)); have HFOn := Lib.hid (((HQ.out.ext hxa).kept hP1 (by omega)).kept hP2 (by omega))
          have HXn := Lib.hid ((((bXa.set0 rq).set1 rb).set2 aa ma ca).kept hP2 (by omega)); have HFn := Lib.hid (bFb.put ru rv)
          have HGon := Lib.hid (((HGo.out.ext hxa).far bXa.row (by decide) (by decide) hP1).far bFb.row (by decide) (by decide) hP2)
          have HEn := Lib.hid (ext_only (ext_only (HE.out.trans hxa) hP1 (by omega)) hP2 (by omega))
          have Hsz := Lib.hid (show (((((w2.setCell ⟨X, 0, none⟩ (.int .i64 rq)).setCell ⟨X, 1, none⟩ (.int .i64 rb)).setCell ⟨X, 2, none⟩ (.slice aa ma ca)).setCell ⟨(X + 2), 0, none⟩ (.int .i64 ru)).setCell ⟨(X + 2), 1, none⟩ (.int .i64 rv)).heap.size = w2.heap.size by rw [hP2.size, hP1.size])
          have HP := Lib.hid (((hOa.p (Ext.refl _)).far bXa.row (by decide) (by decide) hP1).far bFb.row (by decide) (by decide) hP2)
          have HBy := Lib.hid (show V.heap.size ≤ w2.heap.size from hxa.size)
          clear hP1 hP2 bXa bFa bFb hOa hxa HC HG HX HF HY HQ HGo HE
          have HC := HCn; have HG := HGn; have HX := HXn; have HF := HFn; have HY := HOn; have HQ := HFOn; have HGo := HGon; have HE := HEn
          clear HCn HGn HXn HFn HOn HFOn HGon HEn
          go_upto_region 20 with fail
          generalize ((((w2.setCell ⟨X, 0, none⟩ (.int .i64 rq)).setCell ⟨X, 1, none⟩ (.int .i64 rb)).setCell ⟨X, 2, none⟩ (.slice aa ma ca)).setCell ⟨(X + 2), 0, none⟩ (.int .i64 ru)).setCell ⟨(X + 2), 1, none⟩ (.int .i64 rv) = V2 at *
          clear r0 r1 r2 g0 g1 g2 f0 f1 q0 q1
          have l0 := HC.out.x0; have l1 := HC.out.x1; have l2 := HC.out.x2
          go_wp2_with fail
          refine (HRc.out V2 HE.out).mono ?_
          rintro e w3 ⟨⟨ay, my, cy, rfl, hOa⟩, hxa⟩
          clear l0 l1 l2
          have bXa := HY.out.ext hxa; have bFa := HQ.out.ext hxa
          have r0 := bXa.x0; have r1 := bXa.x1; have r2 := bXa.x2; have g0 := bXa.f 0; have g1 := bXa.f 1; have g2 := bXa.f 2
          have hP1 : Only (X + 1) w3 (((w3.setCell ⟨(X + 1), 0, none⟩ (.int .i64 rq)).setCell ⟨(X + 1), 1, none⟩ (.int .i64 rb)).setCell ⟨(X + 1), 2, none⟩ (.slice ay my cy)) := (((Only.refl _ _).setCell _ _).setCell _ _).setCell _ _
          have bFb := bFa.kept hP1 (by omega)
          have f0 := bFa.x0; have f1 := bFa.x1; have q0 := bFa.f 0; have q1 := bFa.f 1
          have hP2 := only2 (((w3.setCell ⟨(X + 1), 0, none⟩ (.int .i64 rq)).setCell ⟨(X + 1), 1, none⟩ (.int .i64 rb)).setCell ⟨(X + 1), 2, none⟩ (.slice ay my cy)) ((X + 3)) (.int .i64 ru) (.int .i64 rv)
          have HCn := Lib.hid (((HC.out.ext hxa).kept hP1 (by omega)).kept hP2 (by omega)); have HGn := Lib.hid (((HG.out.ext hxa).kept hP1 (by omega)).kept hP2 (by omega))
          have HOn := Lib.hid (((HX.out.ext hxa).kept hP1 (by omega)).kept hP2 (by omega)); have HFOn := Lib.hid (((HF.out.ext hxa).kept hP1 (by omega)).kept hP2 (by omega))
          have HXn := Lib.hid ((((bXa.set0 rq).set1 rb).set2 ay my cy).kept hP2 (by omega)); have HFn := Lib.hid (bFb.put ru rv)
          have HGon := Lib.hid (((HGo.out.ext hxa).far bXa.row (by decide) (by decide) hP1).far bFb.row (by decide) (by decide) hP2)
          have HEn := Lib.hid (ext_only (ext_only (HE.out.trans hxa) hP1 (by omega)) hP2 (by omega))
          have Hsz3 := Lib.hid (show (((((w3.setCell ⟨(X + 1), 0, none⟩ (.int .i64 rq)).setCell ⟨(X + 1), 1, none⟩ (.int .i64 rb)).setCell ⟨(X + 1), 2, none⟩ (.slice ay my cy)).setCell ⟨(X + 3), 0, none⟩ (.int .i64 ru)).setCell ⟨(X + 3), 1, none⟩ (.int .i64 rv)).heap.size = w3.heap.size by rw [hP2.size, hP1.size])
          have HPn := Lib.hid (((HP.out.ext hxa).far bXa.row (by decide) (by decide) hP1).far bFb.row (by decide) (by decide) hP2)
          have HYo := Lib.hid ((hOa.far bXa.row (by decide) (by decide) hP1).far bFb.row (by decide) (by decide) hP2)
          clear hP1 hP2 bXa bFa bFb hOa hxa HC HG HY HQ HX HF HGo HE
          have HC := HCn; have HG := HGn; have HY := HXn; have HQ := HFn; have HX := HOn; have HF := HFOn; have HGo := HGon; have HE := HEn
          clear HCn HGn HXn HFn HOn HFOn HGon HEn
          clear HP
          go_wp2_with fail
          go_meet
          exact ⟨rfl, ru, rv, rq, rb, rops, aa, ma, ca, ay, my, cy, V.heap.size, w2.heap.size, HX.out, HF.out, HY.out, HQ.out, HPn.out, by have := HYo.out; rw [Hsz.out] at this; exact this, HFt.out, HBx.out, HBy.out, HC.out, HG.out, HGo.out, HE.out⟩
        · subst hk3
          have e0 : (((3 : Nat) : Int) == 0) = false := by decide
          have e1 : (((3 : Nat) : Int) == 1) = false := by decide
          have e2 : (((3 : Nat) : Int) == 2) = false := by decide
          obtain ⟨⟨⟨ru, rv⟩, rq, rb, rops⟩, hr⟩ : ∃ r, R3 = r := ⟨_, rfl⟩
          have HPc := HM; have HRc := HMr0; have HFt := FM
          rw [hr] at HPc HRc HFt
          simp only at HPc HRc HFt
          clear hr
          have l0 := HG.out.x0; have l1 := HG.out.x1; have l2 := HG.out.x2
          go_wp2_with fail
          refine (HPc.out V HE.out _ HGo.out.n).mono ?_
          rintro e w2 ⟨⟨aa, ma, ca, rfl, hOa⟩, hxa⟩
          clear l0 l1 l2
          have bXa := HX.out.ext hxa; have bFa := HF.out.ext hxa
          have r0 := bXa.x0; have r1 := bXa.x1; have r2 := bXa.x2; have g0 := bXa.f 0; have g1 := bXa.f 1; have g2 := bXa.f 2
          have hP1 : Only X w2 (((w2.setCell ⟨X, 0, none⟩ (.int .i64 rq)).setCell ⟨X, 1, none⟩ (.int .i64 rb)).setCell ⟨X, 2, none⟩ (.slice aa ma ca)) := (((Only.refl _ _).setCell _ _).setCell _ _).setCell _ _
          have bFb := bFa.kept hP1 (by omega)
          have f0 := bFa.x0; have f1 := bFa.x1; have q0 := bFa.f 0; have q1 := bFa.f 1
          have hP2 := only2 (((w2.setCell ⟨X, 0, none⟩ (.int .i64 rq)).setCell ⟨X, 1, none⟩ (.int .i64 rb)).setCell ⟨X, 2, none⟩ (.slice aa ma ca)) ((X + 2)) (.int .i64 ru) (.int .i64 rv)
          have HCn := Lib.hid (((HC.out.ext hxa).kept hP1 (by omega)).kept hP2 (by omega)); have HGn := Lib.hid (((HG.out.ext hxa).kept hP1 (by omega)).kept hP2 (by omega))
          have HOn := Lib.hid (((HY.out.ext hxa).kept hP1 (by omega)).kept hP2 (by omega)); have HFOn := Lib.hid (((HQ.out.ext hxa).kept hP1 (by omega)).kept hP2 (by omega))
          have HXn := Lib.hid ((((bXa.set0 rq).set1 rb).set2 aa ma ca).kept hP2 (by omega)); have HFn := Lib.hid (bFb.put ru rv)
          have HGon := Lib.hid (((HGo.out.ext hxa).far bXa.row (by decide) (by decide) hP1).far bFb.row (by decide) (by decide) hP2)
          have HEn := Lib.hid (ext_only (ext_only (HE.out.trans hxa) hP1 (by omega)) hP2 (by omega))
          have Hsz := Lib.hid (show (((((w2.setCell ⟨X, 0, none⟩ (.int .i64 rq)).setCell ⟨X, 1, none⟩ (.int .i64 rb)).setCell ⟨X, 2, none⟩ (.slice aa ma ca)).setCell ⟨(X + 2), 0, none⟩ (.int .i64 ru)).setCell ⟨(X + 2), 1, none⟩ (.int .i64 rv)).heap.size = w2.heap.size by rw [hP2.size, hP1.size])
          have HP := Lib.hid (((hOa.p (Ext.refl _)).far bXa.row (by decide) (by decide) hP1).far bFb.row (by decide) (by decide) hP2)
          have HBy := Lib.hid (show V.heap.size ≤ w2.heap.size from hxa.size)
          clear hP1 hP2 bXa bFa bFb hOa hxa HC HG HX HF HY HQ HGo HE
          have HC := HCn; have HG := HGn; have HX := HXn; have HF := HFn; have HY := HOn; have HQ := HFOn; have HGo := HGon; have HE := HEn
          clear HCn HGn HXn HFn HOn HFOn HGon HEn
          go_upto_region 11 with fail
          generalize ((((w2.setCell ⟨X, 0, none⟩ (.int .i64 rq)).setCell ⟨X, 1, none⟩ (.int .i64 rb)).setCell ⟨X, 2, none⟩ (.slice aa ma ca)).setCell ⟨(X + 2), 0, none⟩ (.int .i64 ru)).setCell ⟨(X + 2), 1, none⟩ (.int .i64 rv) = V2 at *
          clear r0 r1 r2 g0 g1 g2 f0 f1 q0 q1
          have l0 := HC.out.x0; have l1 := HC.out.x1; have l2 := HC.out.x2
          go_wp2_with fail
          refine (HRc.out V2 HE.out).mono ?_
          rintro e w3 ⟨⟨ay, my, cy, rfl, hOa⟩, hxa⟩
          clear l0 l1 l2
          have bXa := HY.out.ext hxa; have bFa := HQ.out.ext hxa
          have r0 := bXa.x0; have r1 := bXa.x1; have r2 := bXa.x2; have g0 := bXa.f 0; have g1 := bXa.f 1; have g2 := bXa.f 2
          have hP1 : Only (X + 1) w3 (((w3.setCell ⟨(X + 1), 0, none⟩ (.int .i64 rq)).setCell ⟨(X + 1), 1, none⟩ (.int .i64 rb)).setCell ⟨(X + 1), 2, none⟩ (.slice ay my cy)) := (((Only.refl _ _).setCell _ _).setCell _ _).setCell _ _
          have bFb := bFa.kept hP1 (by omega)
          have f0 := bFa.x0; have f1 := bFa.x1; have q0 := bFa.f 0; have q1 := bFa.f 1
          have hP2 := only2 (((w3.setCell ⟨(X + 1), 0, none⟩ (.int .i64 rq)).setCell ⟨(X + 1), 1, none⟩ (.int .i64 rb)).setCell ⟨(X + 1), 2, none⟩ (.slice ay my cy)) ((X + 3)) (.int .i64 ru) (.int .i64 rv)
          have HCn := Lib.hid (((HC.out.ext hxa).kept hP1 (by omega)).kept hP2 (by omega)); have HGn := Lib.hid (((HG.out.ext hxa).kept hP1 (by omega)).kept hP2 (by omega))
          have HOn := Lib.hid (((HX.out.ext hxa).kept hP1 (by omega)).kept hP2 (by omega)); have HFOn := Lib.hid (((HF.out.ext hxa).kept hP1 (by omega)).kept hP2 (by omega))
          have HXn := Lib.hid ((((bXa.set0 rq).set1 rb).set2 ay my cy).kept hP2 (by omega)); have HFn := Lib.hid (bFb.put ru rv)
          have HGon := Lib.hid (((HGo.out.ext hxa).far bXa.row (by decide) (by decide) hP1).far bFb.row (by decide) (by decide) hP2)
          have HEn := Lib.hid (ext_only (ext_only (HE.out.trans hxa) hP1 (by omega)) hP2 (by omega))
          have Hsz3 := Lib.hid (show (((((w3.setCell ⟨(X + 1), 0, none⟩ (.int .i64 rq)).setCell ⟨(X + 1), 1, none⟩ (.int .i64 rb)).setCell ⟨(X + 1), 2, none⟩ (.slice ay my cy)).setCell ⟨(X + 3), 0, none⟩ (.int .i64 ru)).setCell ⟨(X + 3), 1, none⟩ (.int .i64 rv)).heap.size = w3.heap.size by rw [hP2.size, hP1.size])
          have HPn := Lib.hid (((HP.out.ext hxa).far bXa.row (by decide) (by decide) hP1).far bFb.row (by decide) (by decide) hP2)
          have HYo := Lib.hid ((hOa.far bXa.row (by decide) (by decide) hP1).far bFb.row (by decide) (by decide) hP2)
          clear hP1 hP2 bXa bFa bFb hOa hxa HC HG HY HQ HX HF HGo HE
          have HC := HCn; have HG := HGn; have HY := HXn; have HQ := HFn; have HX := HOn; have HF := HFOn; have HGo := HGon; have HE := HEn
          clear HCn HGn HXn HFn HOn HFOn HGon HEn
          clear HP
          go_wp2_with fail
          go_meet
          exact ⟨rfl, ru, rv, rq, rb, rops, aa, ma, ca, ay, my, cy, V.heap.size, w2.heap.size, HX.out, HF.out, HY.out, HQ.out, HPn.out, by have := HYo.out; rw [Hsz.out] at this; exact this, HFt.out, HBx.out, HBy.out, HC.out, HG.out, HGo.out, HE.out⟩
      case rest =>
      obtain ⟨rfl, ru, rv, rq, rb, rops, ax, mx, cx, ay, my, cy, Bx, By, z1, z2, z3, z4, z5, z6, z7, z8, z9, za, zb, zc, zd⟩ := hcut
      clear HC HG HGo HE HX HY HF HQ HBx
      obtain ⟨W1, rfl⟩ : ∃ W1 : World, W1 = wc := ⟨_, rfl⟩
      have HX := Lib.hid z1; have HF := Lib.hid z2; have HY := Lib.hid z3; have HQ := Lib.hid z4; have HP := Lib.hid z5; have HYo := Lib.hid z6; have HFt := Lib.hid z7; have HC := Lib.hid za; have HG := Lib.hid zb; have HGo := Lib.hid zc; have HE := Lib.hid zd
      have hb1 := z8; have hb2 := z9
      clear z1 z2 z3 z4 z5 z6 z7 z8 z9 za zb zc zd
      have HAn := Lib.hid (answers_N ⟨rq, rb, rops⟩ _ _ ax mx cx ay my cy ru rv W1 HP.out.n HYo.out)
      simp only at HAn
      have u0 := HX.out.x0; have u1 := HX.out.x1; have u2 := HX.out.x2; have u3 := HF.out.x0; have u4 := HF.out.x1; have t0 := HY.out.x0; have t1 := HY.out.x1; have t2 := HY.out.x2; have t3 := HQ.out.x0; have t4 := HQ.out.x1
      go_wp2_with fail
      refine HAn.out.mono ?_
      rintro e w5 ⟨rfl, hx5⟩
      clear u0 u1 u2 u3 u4 t0 t1 t2 t3 t4 HAn
      have HX5 := Lib.hid (HX.out.ext hx5); have HY5 := Lib.hid (HY.out.ext hx5); have HC5 := Lib.hid (HC.out.ext hx5); have HG5 := Lib.hid (HG.out.ext hx5); have HGo5 := Lib.hid (HGo.out.ext hx5); have HE5 := Lib.hid (HE.out.trans hx5); have HYo5 := Lib.hid (HYo.out.ext hx5)
      have HMk := Lib.hid (mark_any (fun b => b < Bx ∨ By ≤ b) rq rb ax mx cx Bx rops w5 (HP.out.ext hx5) (by have := HFt.out.1; have := HP.out.n.at.1; omega) HFt.out.2)
      have hwB : ∀ b, b < w.heap.size → b < Bx ∨ By ≤ b := fun b hb => Or.inl (by omega)
      clear hx5 HX HY HC HG HGo HE HYo HP HF HQ
      have u0 := HX5.out.x0; have u1 := HX5.out.x1; have u2 := HX5.out.x2
      go_wp2_with fail
      refine HMk.out.mono ?_
      rintro e w6 ⟨rfl, hPx, hst⟩
      clear u0 u1 u2 HMk
      have HX6 := Lib.hid (HX5.out.sta hst (Or.inl (by omega))); have HY6 := Lib.hid (HY5.out.sta hst (Or.inl (by omega))); have HC6 := Lib.hid (HC5.out.sta hst (Or.inl (by omega))); have HG6 := Lib.hid (HG5.out.sta hst (Or.inl (by omega)))
      have HGo6 := Lib.hid (HGo5.out.sta hst (fun b _ hb => Or.inl (by omega))); have HE6 := Lib.hid (hst.ext HE5.out hwB)
      have hYp : OpsP (fun b => b < By) w6 By (.slice ay my cy) rops := ((HYo5.out.p (Ext.refl _)).mono (Q := fun b => b < By) (fun b _ hb => Or.inl hb)).sta hst (fun b hb _ => Or.inr hb)
      have HMk := Lib.hid (mark_any (fun b => b < By) rq rb ay my cy By rops w6 hYp (by have := HFt.out.1; have := HYo5.out.at.1; omega) HFt.out.2)
      have HPx := Lib.hid hPx
      clear hPx hst hYp HX5 HY5 HC5 HG5 HGo5 HE5 HYo5 hwB
      have u0 := HY6.out.x0; have u1 := HY6.out.x1; have u2 := HY6.out.x2
      go_wp2_with fail
      refine HMk.out.mono ?_
      rintro e w7 ⟨rfl, hPy, hst⟩
      clear u0 u1 u2 HMk
      have HX7 := Lib.hid (HX6.out.sta hst (show X < By by omega)); have HY7 := Lib.hid (HY6.out.sta hst (show X + 1 < By by omega)); have HC7 := Lib.hid (HC6.out.sta hst (show H < By by omega)); have HG7 := Lib.hid (HG6.out.sta hst (show B0 < By by omega))
      have HGo7 := Lib.hid (HGo6.out.sta hst (fun b _ hb => show b < By by omega)); have HE7 := Lib.hid (hst.ext HE6.out (fun b hb => show b < By by omega))
      have hPx7 := HPx.out.sta hst (fun b _ hb => show b < By by omega)
      have hsX := hPx7.n.at
      have hsY := hPy.n.at
      have hmm : mx = my := hsX.1.symm.trans hsY.1
      have HSm := Lib.hid (by have h9 := sameCircuit_any ⟨rq, rb, rops.map mkO⟩ ax mx cx ay cy w7 hsX.2.2.2 (by rw [hmm]; exact hsY.2.2.2) hsX.2.1 hsX.2.2.1 (by rw [hmm]; exact hsY.2.1) hsY.2.2.1; exact h9)
      rw [hmm] at HSm
      rw [hmm] at HX7
      have Hsg := Lib.hid (fun wx (hx : Ext w7 wx) => HSg.out wx (HE7.out.trans hx) _ (HGo7.out.ext hx).n)
      have Hs7 := Lib.hid (show B0 + 1 ≤ w7.heap.size by have := HG7.out.lt; omega)
      simp only at HSm
      clear hPy hst hPx7 hsX hsY HPx HX6 HY6 HC6 HG6 HGo6 HE6 hmm
      have u0 := HX7.out.x0; have u1 := HX7.out.x1; have u2 := HX7.out.x2; have t0 := HY7.out.x0; have t1 := HY7.out.x1; have t2 := HY7.out.x2
      go_wp2_with fail
      refine HSm.out.mono ?_
      rintro e w8 ⟨rfl, hx8⟩
      clear u0 u1 u2 t0 t1 t2 HSm
      have Hsg8 := Lib.hid (Hsg.out w8 hx8)
      have HC8 := Lib.hid (HC7.out.ext hx8); have HG8 := Lib.hid (HG7.out.ext hx8); have HGo8 := Lib.hid (HGo7.out.ext hx8); have HE8 := Lib.hid (HE7.out.trans hx8); have Hs8 := Lib.hid (Nat.le_trans Hs7.out hx8.size)
      clear hx8 HX7 HY7 HC7 HG7 HGo7 HE7 Hs7 Hsg
      have u0 := HC8.out.x0; have u1 := HC8.out.x1; have u2 := HC8.out.x2; have t0 := HG8.out.x0; have t1 := HG8.out.x1; have t2 := HG8.out.x2
      go_wp2_with fail
      refine Hsg8.out.mono ?_
      rintro e w9 ⟨rfl, hx9⟩
      clear u0 u1 u2 t0 t1 t2 Hsg8
      have HC9 := Lib.hid (HC8.out.ext hx9); have HG9 := Lib.hid (HG8.out.ext hx9); have HGo9 := Lib.hid (HGo8.out.ext hx9); have HE9 := Lib.hid (HE8.out.trans hx9); have Hs9 := Lib.hid (Nat.le_trans Hs8.out hx9.size)
      clear hx9 HC8 HG8 HGo8 HE8 Hs8
      have wj : IntKind.i64.wrap ((j : Int) + 1) = ((j + 1 : Nat) : Int) := by have := Hj1.out; rw [IntKind.wrap_i64]; omega
      go_wp2_with fail
      go_roundg (2 - (j + 1))
      case measure => have := Hjk.out; have := Hj1.out; omega
      case rel => exact ⟨j + 1, rfl, Hj1.out, rfl, HC9.out, HG9.out, HGo9.out, HE9.out, Hs9.out⟩

end Go.Proofs.YtapolidgocfbjaaDoor
namespace Go.Proofs.YtapolidgocfbjaaDoor
open Go.RowKit Go.ChangeShapes Go.WideShapes Go.Deep

instance : Inhabited Gop := ⟨⟨0, 0, [], 0, 0, []⟩⟩

theorem addr_at (b o t : Nat) : (⟨b, o, none⟩ : Addr).add t = ⟨b, o + t, none⟩ := by
  unfold Addr.add
  by_cases h : t = 0 <;> simp [h]

section
variable {H : Type} {enc : TypeId × Value → H} {W : World}

theorem bytes_int : Tryd.prog.bytesOf 3 = 8 := by kernel_rfl
theorem bytes_op : Tryd.prog.bytesOf 43 = 80 := by kernel_rfl
theorem cells_int : Tryd.prog.cellsOf 3 = 1 := by kernel_rfl
theorem cells_op : Tryd.prog.cellsOf 43 = 6 := by kernel_rfl
theorem cells_ci : Tryd.prog.cellsOf 24 = 3 := by kernel_rfl

theorem open_ints {fuel : Nat} {cs : List Value} {x : DataW H × List MemPlace} (h : DataW.trod enc Tryd.prog W 0 (fun _ => true) true fuel 25 cs = some x) (hz : ∀ k ∈ x.1.weights Tryd.prog 25, k ≤ reachBytes) :
    ∃ (ao : Option Addr) (n cp : Nat) (l : List Int), cs = [.slice ao n cp] ∧ n ≤ cp ∧ cp ≤ 9223372036854775807 ∧ IntsAt W ao n l ∧ l.length * 8 ≤ 140737488355328 := by
  rcases open_slice1 Tryd.underlying25 cells_int h with ⟨rfl, rfl⟩ | ⟨a, len, cap, m, n, V, D, Pl, rfl, _, hl, hm, hmm, rfl, hx⟩
  · exact ⟨none, 0, 0, [], rfl, by omega, by omega, ⟨rfl, Or.inl rfl⟩, by simp⟩
  · have hmc : m = cap := by simpa using hmm
    subst hmc
    obtain ⟨F, hF⟩ := choose_lt (α := Int) (n := m) (p := fun i z => W.cell? (a.add i) = some (.int .i64 z)) (fun i hi => by
      obtain ⟨h1, h2⟩ := hx i hi
      obtain ⟨z, e, _⟩ := DataW.trod_int Tryd.underlying3 h2
      injection e with e
      exact ⟨z, by rw [h1, e]⟩)
    refine ⟨some a, len, m, (List.range len).map F, rfl, hl, hm, ⟨by simp, ?_⟩, ?_⟩
    · by_cases h0 : len = 0
      · exact Or.inl h0
      · obtain ⟨b, o, spot⟩ := a
        have h1 := hF 0 (by omega)
        have hs : spot = none := by simpa [Addr.add] using World.cell?_spot h1
        subst hs
        refine Or.inr ⟨b, o, rfl, World.block_lt_of_cell? W _ h1, fun t ht => ?_⟩
        have := hF t (by omega)
        rw [addr_at] at this
        simpa [List.getD_eq_getElem?_getD, ht] using this
    · have := hz ((len + (m - len)) * Tryd.prog.bytesOf 3) (by simp [DataW.weights, Tryd.underlying25])
      rw [bytes_int] at this
      have hr : reachBytes ≤ 140737488355328 := by decide
      rw [List.length_map, List.length_range]
      omega

set_option maxRecDepth 100000 in
theorem open_op {fuel : Nat} {cs : List Value} {x : DataW H × List MemPlace} (h : DataW.trod enc Tryd.prog W 0 (fun _ => true) true fuel 43 cs = some x) (hz : ∀ k ∈ x.1.weights Tryd.prog 43, k ≤ reachBytes) :
    ∃ (o : Gop) (a1 : Option Addr) (n1 c1 : Nat) (a2 : Option Addr) (n2 c2 : Nat), cs = [.int .i64 o.kind, .int .i64 o.k, .slice a1 n1 c1, .int .i64 o.q, .int .i64 o.bit, .slice a2 n2 c2] ∧ OpL W o a1 n1 c1 a2 n2 c2 ∧ o.ctl.length * 8 ≤ 140737488355328 ∧ o.cnd.length * 8 ≤ 140737488355328 := by
  obtain ⟨xs, n, _, rfl, hl, hlen, hf⟩ := DataW.trod_struct Tryd.underlying43 h
  rw [cells_op] at hl
  match xs, hlen, cs, hl with
  | [y0, y1, y2, y3, y4, y5], _, [v0, v1, v2, v3, v4, v5], _ =>
    have g0 := hf 0 _ rfl
    have g1 := hf 1 _ rfl
    have g2 := hf 2 _ rfl
    have g3 := hf 3 _ rfl
    have g4 := hf 4 _ rfl
    have g5 := hf 5 _ rfl
    simp only [List.getElem?_cons_zero, List.getElem?_cons_succ] at g0 g1 g2 g3 g4 g5
    obtain ⟨k0, e0, _⟩ := DataW.trod_int Tryd.underlying3 g0
    obtain ⟨k1, e1, _⟩ := DataW.trod_int Tryd.underlying3 g1
    obtain ⟨k3, e3, _⟩ := DataW.trod_int Tryd.underlying3 g3
    obtain ⟨k4, e4, _⟩ := DataW.trod_int Tryd.underlying3 g4
    obtain ⟨a1, n1, c1, l1, e2, p2, q2, I2, b2⟩ := open_ints g2 (fun k hk => hz k (by simp [DataW.weights, Tryd.underlying43, DataW.weightsEach, hk]))
    obtain ⟨a2, n2, c2, l2, e5, p5, q5, I5, b5⟩ := open_ints g5 (fun k hk => hz k (by simp [DataW.weights, Tryd.underlying43, DataW.weightsEach, hk]))
    injection e0 with e0; injection e1 with e1; injection e2 with e2; injection e3 with e3; injection e4 with e4; injection e5 with e5
    exact ⟨⟨k0, k1, l1, k3, k4, l2⟩, a1, n1, c1, a2, n2, c2, by rw [e0, e1, e2, e3, e4, e5], ⟨I2, p2, q2, I5, p5, q5⟩, b2, b5⟩

set_option maxRecDepth 100000 in
theorem open_circuit {v : Value} {d : DataW H} {p : List MemPlace} {base : Nat} (hok : Value.okWide Tryd.prog W .any base 24 v) (h : DataW.Trod enc Tryd.prog W 0 (fun _ => true) true 24 v d p) (hz : ∀ k ∈ d.weights Tryd.prog 24, k ≤ reachBytes) :
    ∃ (c : Gci) (ao : Option Addr) (n cp : Nat), v = .agg #[.int .i64 c.qubits, .int .i64 c.bits, .slice ao n cp] ∧ OpsAt W ao n c.ops ∧ n ≤ cp ∧ cp ≤ 9223372036854775807 ∧ n * 80 ≤ 140737488355328 ∧ ∀ g ∈ c.ops, g.ctl.length * 8 ≤ 140737488355328 ∧ g.cnd.length * 8 ≤ 140737488355328 := by
  obtain ⟨fuel, h⟩ := h
  have hv : ∃ cs : Array Value, v = .agg cs := by
    unfold Value.okWide at hok
    rw [Tryd.underlying24] at hok
    obtain ⟨cs, e, _⟩ := hok
    exact ⟨cs, e⟩
  obtain ⟨cs, rfl⟩ := hv
  obtain ⟨xs, n, _, hx0, hl, hlen, hf⟩ := DataW.trod_struct Tryd.underlying24 h
  obtain ⟨cl⟩ := cs
  have hcl : (Value.agg ⟨cl⟩).cells.toList = cl := rfl
  rw [hcl] at hl hf
  rw [cells_ci] at hl
  match xs, hlen, cl, hl with
  | [y0, y1, y2], _, [v0, v1, v2], _ =>
    injection hx0 with hd hp
    subst hd
    have g0 := hf 0 _ rfl
    have g1 := hf 1 _ rfl
    have g2 := hf 2 _ rfl
    simp only [List.getElem?_cons_zero, List.getElem?_cons_succ] at g0 g1 g2
    obtain ⟨qb, e0, _⟩ := DataW.trod_int Tryd.underlying3 g0
    obtain ⟨bi, e1, _⟩ := DataW.trod_int Tryd.underlying3 g1
    injection e0 with e0; injection e1 with e1
    have hz2 : ∀ k ∈ y2.1.weights Tryd.prog 22, k ≤ reachBytes := fun k hk => hz k (by simp [DataW.weights, Tryd.underlying24, DataW.weightsEach, hk])
    rcases open_slice Tryd.underlying22 g2 with ⟨e2, _⟩ | ⟨a, len, cap, m, n', D, Pl, e2, _, hl2, hm2, hmm, hy2, hx⟩
    · injection e2 with e2
      refine ⟨⟨qb, bi, []⟩, none, 0, 0, by rw [e0, e1, e2], ⟨rfl, Or.inl rfl⟩, by omega, by omega, by omega, by simp⟩
    · injection e2 with e2
      have hmc : m = cap := by simpa using hmm
      subst hmc
      rw [cells_op] at hx
      subst hy2
      have hr : reachBytes ≤ 140737488355328 := by decide
      have hb := hz2 ((len + (m - len)) * Tryd.prog.bytesOf 43) (by simp [DataW.weights, Tryd.underlying22])
      rw [bytes_op] at hb
      have hel : ∀ i, i < len → ∀ k ∈ (D i).weights Tryd.prog 43, k ≤ reachBytes := by
        intro i hi k hk
        refine hz2 k ?_
        have hmem : ∀ (l : List (DataW H)) (d : DataW H), d ∈ l → ∀ k ∈ d.weights Tryd.prog 43, k ∈ DataW.weightsAll Tryd.prog 43 l := by
          intro l
          induction l with
          | nil => intro d hd; simp at hd
          | cons a r ih =>
            intro d hd k hk
            rw [DataW.weightsAll, List.mem_append]
            rcases List.mem_cons.1 hd with rfl | hd
            · exact Or.inl hk
            · exact Or.inr (ih d hd k hk)
        have := hmem ((List.range len).map D) (D i) (List.mem_map.2 ⟨i, List.mem_range.2 hi, rfl⟩) k hk
        simp only [DataW.weights, Tryd.underlying22]
        exact List.mem_cons_of_mem _ (List.mem_append_left _ this)
      obtain ⟨b, o, spot⟩ := a
      have hpos : 0 < len → spot = none := fun h0 => by
        obtain ⟨cs', h1, _⟩ := hx 0 (by omega)
        obtain ⟨_, hlen', hc⟩ := World.cells?_some h1
        have h2 := hc 0 (by omega)
        rw [List.getElem?_eq_getElem (by omega)] at h2
        simpa [Addr.add] using World.cell?_spot h2
      obtain ⟨G, hG⟩ := choose_lt (α := Gop) (n := len) (p := fun i g => ∃ (a1 : Option Addr) (n1 c1 : Nat) (a2 : Option Addr) (n2 c2 : Nat), W.cell? ⟨b, o + i * 6, none⟩ = some (.int .i64 g.kind) ∧ W.cell? ⟨b, o + i * 6 + 1, none⟩ = some (.int .i64 g.k) ∧ W.cell? ⟨b, o + i * 6 + 2, none⟩ = some (.slice a1 n1 c1) ∧ W.cell? ⟨b, o + i * 6 + 3, none⟩ = some (.int .i64 g.q) ∧ W.cell? ⟨b, o + i * 6 + 4, none⟩ = some (.int .i64 g.bit) ∧ W.cell? ⟨b, o + i * 6 + 5, none⟩ = some (.slice a2 n2 c2) ∧ OpL W g a1 n1 c1 a2 n2 c2 ∧ g.ctl.length * 8 ≤ 140737488355328 ∧ g.cnd.length * 8 ≤ 140737488355328) (fun i hi => by
        obtain rfl := hpos (by omega)
        obtain ⟨cs', h1, h2⟩ := hx i (by omega)
        obtain ⟨_, _, hc⟩ := World.cells?_some h1
        obtain ⟨g, a1, n1, c1, a2, n2, c2, rfl, hL, b1, b2⟩ := open_op h2 (hel i hi)
        have hc' : ∀ j, j < 6 → W.cell? ⟨b, o + i * 6 + j, none⟩ = ([.int .i64 g.kind, .int .i64 g.k, .slice a1 n1 c1, .int .i64 g.q, .int .i64 g.bit, .slice a2 n2 c2] : List Value)[j]? := fun j hj => by have := hc j hj; rw [add_add, addr_at, ← Nat.add_assoc] at this; exact this
        exact ⟨g, a1, n1, c1, a2, n2, c2, hc' 0 (by omega), hc' 1 (by omega), hc' 2 (by omega), hc' 3 (by omega), hc' 4 (by omega), hc' 5 (by omega), hL, b1, b2⟩)
      refine ⟨⟨qb, bi, (List.range len).map G⟩, some ⟨b, o, spot⟩, len, m, by rw [e0, e1, e2], ⟨by simp, ?_⟩, hl2, hm2, by omega, ?_⟩
      · by_cases h0 : len = 0
        · exact Or.inl h0
        · obtain rfl := hpos (by omega)
          obtain ⟨_, _, _, _, _, _, hc0, _⟩ := hG 0 (by omega)
          refine Or.inr ⟨b, o, rfl, World.block_lt_of_cell? W _ hc0, fun t g hg => ?_⟩
          have ht : t < len := by
            have := (List.getElem?_eq_some_iff.1 hg).1
            simpa using this
          have hge : g = G t := by
            have := hg
            simp [ht] at this
            exact this.symm
          subst hge
          obtain ⟨a1, n1, c1, a2, n2, c2, x0, x1, x2, x3, x4, x5, hL, _, _⟩ := hG t ht
          exact ⟨a1, n1, c1, a2, n2, c2, x0, x1, x2, x3, x4, x5, hL⟩
      · intro g hg
        simp only [List.mem_map, List.mem_range] at hg
        obtain ⟨i, hi, rfl⟩ := hg
        obtain ⟨_, _, _, _, _, _, _, _, _, _, _, _, _, b1, b2⟩ := hG i hi
        exact ⟨b1, b2⟩
end

end Go.Proofs.YtapolidgocfbjaaDoor
namespace Go.Proofs.YtapolidgocfbjaaDoor
open Go.RowKit Go.ChangeShapes Go.WideShapes Go.Deep

section
variable {H : Type} {enc : TypeId × Value → H} {W : World}
theorem open_list {v : Value} {d : DataW H} {p : List MemPlace} {base : Nat} (hok : Value.okWide Tryd.prog W .any base 25 v) (h : DataW.Trod enc Tryd.prog W 0 (fun _ => true) true 25 v d p) (hz : ∀ k ∈ d.weights Tryd.prog 25, k ≤ reachBytes) :
    ∃ (ao : Option Addr) (n cp : Nat) (l : List Int), v = .slice ao n cp ∧ n ≤ cp ∧ cp ≤ 9223372036854775807 ∧ IntsAt W ao n l ∧ n * 8 ≤ 140737488355328 := by
  obtain ⟨fuel, h⟩ := h
  have hv : ∃ a n c, v = .slice a n c := by
    cases v <;> simp [Value.okWide, Cell.okWide, Cell.ok, Tryd.underlying25] at hok
    exact ⟨_, _, _, rfl⟩
  obtain ⟨a, n, c, rfl⟩ := hv
  obtain ⟨ao, n', cp, l, e, h1, h2, h3, h4⟩ := open_ints h hz
  have hc : (Value.slice a n c).cells.toList = [.slice a n c] := rfl
  rw [hc] at e
  injection e with e
  injection e with e1 e2 e3
  subst e1; subst e2; subst e3
  exact ⟨a, n, c, l, rfl, h1, h2, h3, by rw [← h3.1]; exact h4⟩
end

end Go.Proofs.YtapolidgocfbjaaDoor
namespace Go.Proofs.YtapolidgocfbjaaDoor
open Go.RowKit Go.ChangeShapes Go.WideShapes

set_option maxRecDepth 100000 in
theorem shape_row {H : Type} {enc : TypeId × Value → H} {W : World} {base : Nat} {sp : Nat → Bool} {held : Bool} {fuel : Nat} {cs : List Value} {s : List UInt8} {a b c d : Bool} {p : List MemPlace}
    (h : DataW.trod enc Tryd.prog W base sp held fuel 77 cs = some (.agg [.lit (.string s), .lit (.bool a), .lit (.bool b), .lit (.bool c), .lit (.bool d)], p)) :
    cs = [.string ⟨s.toArray⟩, .bool a, .bool b, .bool c, .bool d] := by
  obtain ⟨xs, n, _, hx, hl, hlen, hf⟩ := DataW.trod_struct Tryd.underlying77 h
  have hc : Tryd.prog.cellsOf 77 = 5 := by kernel_rfl
  rw [hc] at hl
  match xs, hlen, cs, hl with
  | [y0, y1, y2, y3, y4], _, [v0, v1, v2, v3, v4], _ =>
    have g0 := hf 0 _ rfl
    have g1 := hf 1 _ rfl
    have g2 := hf 2 _ rfl
    have g3 := hf 3 _ rfl
    have g4 := hf 4 _ rfl
    simp only [List.getElem?_cons_zero, List.getElem?_cons_succ] at g0 g1 g2 g3 g4
    obtain ⟨s0, e0, z0, _⟩ := DataW.trod_string Tryd.underlying9 g0
    obtain ⟨b1, e1, z1⟩ := DataW.trod_bool Tryd.underlying4 g1
    obtain ⟨b2, e2, z2⟩ := DataW.trod_bool Tryd.underlying4 g2
    obtain ⟨b3, e3, z3⟩ := DataW.trod_bool Tryd.underlying4 g3
    obtain ⟨b4, e4, z4⟩ := DataW.trod_bool Tryd.underlying4 g4
    subst z0; subst z1; subst z2; subst z3; subst z4
    injection hx with hd _
    simp only [List.map_cons, List.map_nil, DataW.agg.injEq, List.cons.injEq, DataW.lit.injEq, Lit.string.injEq, Lit.bool.injEq, and_true] at hd
    obtain ⟨rfl, rfl, rfl, rfl, rfl⟩ := hd
    injection e0 with e0; injection e1 with e1; injection e2 with e2; injection e3 with e3; injection e4 with e4
    rw [e0, e1, e2, e3, e4]

set_option maxRecDepth 100000 in
theorem shp_of_laid {W : World} (h : laidMet Tryd.prog [("qloom/circ.shapes", Rows.laid_qloom_circ_shapes)] W) : Shp W := by
  obtain ⟨ps, ⟨g', t', cs, fuel, p, q, hg', ht', hvar, hd, _, _⟩, _⟩ := h
  obtain rfl := Option.some.inj ((show Tryd.prog.globalNamed "qloom/circ.shapes" = some 0 by kernel_rfl).symm.trans hg')
  obtain rfl := Option.some.inj ((show (Tryd.prog.globals[0]?).map (·.type) = some 78 by kernel_rfl).symm.trans ht')
  obtain ⟨xs, m, _, hx, hl, hlen, hf⟩ := DataW.trod_array Tryd.underlying78 hd
  have hc : Tryd.prog.cellsOf 77 = 5 := by kernel_rfl
  rw [hc] at hf
  match xs, hlen with
  | [y0, y1, y2, y3, y4, y5, y6], _ =>
    injection hx with hx _
    unfold Rows.laid_qloom_circ_shapes at hx
    simp only [List.map_cons, List.map_nil, DataW.agg.injEq, List.cons.injEq, and_true] at hx
    obtain ⟨_, x1, x2, x3, x4, x5, x6⟩ := hx
    have key : ∀ (k : Nat) (y : DataW Unit × List MemPlace) (s : List UInt8) (a b c d : Bool), k < 7 → [y0, y1, y2, y3, y4, y5, y6][k]? = some y → .agg [.lit (.string s), .lit (.bool a), .lit (.bool b), .lit (.bool c), .lit (.bool d)] = y.1 →
        W.cell? ⟨0, k * 5, none⟩ = some (.string ⟨s.toArray⟩) ∧ W.cell? ⟨0, k * 5 + 1, none⟩ = some (.bool a) ∧ W.cell? ⟨0, k * 5 + 2, none⟩ = some (.bool b) ∧ W.cell? ⟨0, k * 5 + 3, none⟩ = some (.bool c) ∧ W.cell? ⟨0, k * 5 + 4, none⟩ = some (.bool d) := by
      intro k y s a b c d hk hy he
      have h1 := hf k hk
      rw [hy] at h1
      obtain ⟨yd, yp⟩ := y
      simp only at he
      subst he
      have h2 := shape_row h1
      have h3 : ∀ j, j < 5 → W.cell? ⟨0, k * 5 + j, none⟩ = ([.string ⟨s.toArray⟩, .bool a, .bool b, .bool c, .bool d] : List Value)[j]? := by
        intro j hj
        rw [World.var?_cell hg' hvar, ← h2, List.getElem?_take, if_pos hj, List.getElem?_drop, Array.getElem?_toList]
      exact ⟨h3 0 (by omega), h3 1 (by omega), h3 2 (by omega), h3 3 (by omega), h3 4 (by omega)⟩
    intro k h1 h6
    have hk : k = 1 ∨ k = 2 ∨ k = 3 ∨ k = 4 ∨ k = 5 ∨ k = 6 := by omega
    rcases hk with rfl | rfl | rfl | rfl | rfl | rfl
    · exact key 1 y1 _ _ _ _ _ (by omega) rfl x1
    · exact key 2 y2 _ _ _ _ _ (by omega) rfl x2
    · exact key 3 y3 _ _ _ _ _ (by omega) rfl x3
    · exact key 4 y4 _ _ _ _ _ (by omega) rfl x4
    · exact key 5 y5 _ _ _ _ _ (by omega) rfl x5
    · exact key 6 y6 _ _ _ _ _ (by omega) rfl x6

/-- What lay there is as it was: what is asked behind the call. -/
theorem post_kept {H : Type} {enc : TypeId × Value → H} {P : Program} {f : Func} {s : ChangeSpec} {apart fresh handsOn again : Bool} {W W' : World} {args : Array Value} {v : Value} {ds gs : List (DataW H)} {ps : List MemPlace}
    (hW : DataW.Whole enc P f.params.toList s.vars apart W args.toList ds gs ps)
    (hres : ∀ (b : Nat) (sp : Nat → Bool) (hd : Bool), DataW.TrodAll enc P W' b sp hd f.resultTypes.toList (v.resultList f.resultTypes.size) (s.fn H (ds ++ gs)).results [])
    (hargs : ∀ sp : Nat → Bool, (∀ x ∈ ps, sp x.block = true) → DataW.TrodAll enc P W' 0 sp true f.params.toList args.toList (s.fn H (ds ++ gs)).args ps)
    (hvars : ∀ sp : Nat → Bool, DataW.TrodVars enc P W' sp s.vars (s.fn H (ds ++ gs)).vars [])
    (hb : Ext W W')
    (hok : ∀ (j : Nat) (t : TypeId) (r : Value), f.resultTypes[j]? = some t → (v.resultList f.resultTypes.size)[j]? = some r → Value.okWide P W' .any 0 t r) :
    s.post enc P f apart fresh handsOn again W args v W' := by
  have hlt := hW.lt
  have hold : ∀ x ∈ ps, decide (x.block < W.heap.size) = true := fun x hx => by simpa using hlt x hx
  have hall : ∀ x ∈ ps, (fun _ : Nat => true) x.block = true := fun _ _ => rfl
  have hn : W.noneFrozen ps ∧ (apart = true → ps.Nodup) := by
    obtain ⟨_, _, _, _, rfl, h1, h2⟩ := hW
    exact ⟨h1, h2⟩
  refine ⟨ds, gs, ps, [], ps, [], hW, hres _ _ _, hargs _ hold, hvars _, Below.frame hb _, fun _ => ?_⟩
  refine ⟨hok, _, _, ([] ++ ps) ++ [], ⟨[] ++ ps, [], trodAll_append (hargs (fun _ => true) hall) (hres _ _ _), hvars _, rfl, ?_, ?_⟩, ?_⟩
  · intro b off hp
    have hp' : MemPlace.cell b off ∈ ps := by simpa using hp
    rw [Below.frozen hb (p := ⟨b, off, none⟩) (hlt _ hp')]
    exact hn.1 b off hp'
  · intro ha
    simpa using hn.2 ha
  · intro x hx _
    simpa using hx

end Go.Proofs.YtapolidgocfbjaaDoor
