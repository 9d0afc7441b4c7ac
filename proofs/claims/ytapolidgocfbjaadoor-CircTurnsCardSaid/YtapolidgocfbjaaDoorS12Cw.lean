/-
  CircTurns: its walk. A circuit that was handed in, opened: its operations and their lists as they lie in memory. A list of ints that was handed in, opened. The table of kinds, as it is laid; what is asked behind a call that leaves all that lay there as it was.
-/
import Derived.Test.YtapolidgocfbjaaDoorProg
import Derived.Test.YtapolidgocfbjaaDoorRows
import Derived.BigQuiet
import Derived.Carry
import Derived.ChangeSame
import Derived.ChangeShapes
import Derived.Deep.AppendLies
import Derived.Deep.Cut
import Derived.Deep.CutRange
import Derived.Deep.LoopGhost
import Derived.Deep.QuietTactic
import Derived.Deep.RegionHeld3
import Derived.Deep.Slices
import Derived.Defers
import Derived.FnData
import Derived.Laws.AppendOwnNone
import Derived.Laws.Bits64b
import Derived.Laws.Concat
import Derived.Laws.CopyOwn
import Derived.Laws.IdiomStrings
import Derived.Laws.ResultCell
import Derived.Lib.AppendStr
import Derived.Lib.AppendZeros
import Derived.Lib.AppendZerosOnto
import Derived.Lib.BitFns
import Derived.Lib.Hide
import Derived.Lib.ItoaMem
import Derived.Lib.ItoaNum
import Derived.Lib.Strings
import Derived.Maps.AppendAt
import Derived.OpenShut
import Derived.OwnWalk
import Derived.Recover
import Derived.Shelf.LaysM
import Derived.Shelf.Strconv.Itoa0
import Derived.Shelf.Strconv.Itoa1
import Derived.Shelf.Strconv.Itoa2
import Derived.Shelf.Strconv.Itoa3
import Derived.Shelf.Strings.Builder1
import Derived.Shelf.Strings.BuilderF
import Derived.Shelf.Strings.BuilderK
import Derived.SizedLaws
import Derived.Stop.LaidErr
import Derived.WalkKit
import Derived.WalkLawsBesides
import Derived.WalkSpells
import Derived.Test.YtapolidgocfbjaaDoorS00Ce
import Derived.Test.YtapolidgocfbjaaDoorS01Cj
import Derived.Test.YtapolidgocfbjaaDoorShelf
import Derived.Test.YtapolidgocfbjaaDoorS03Cq
import Derived.Test.YtapolidgocfbjaaDoorS04Ka
import Derived.Test.YtapolidgocfbjaaDoorS05Jj
import Derived.Test.YtapolidgocfbjaaDoorS06Kl
import Derived.Test.YtapolidgocfbjaaDoorS07Ko
import Derived.Test.YtapolidgocfbjaaDoorS08Ks
import Derived.Test.YtapolidgocfbjaaDoorS09Ku
import Derived.Test.YtapolidgocfbjaaDoorS10Kv
import Derived.Test.YtapolidgocfbjaaDoorS11Kq
namespace Go.Proofs.YtapolidgocfbjaaDoor
open Go.RowKit

set_option maxHeartbeats 8000000 in
set_option maxRecDepth 100000 in
theorem turns_walk (c : Gci) (ao : Option Addr) (n cp : Nat) (q : Int) (tl : List Int) (ta : Option Addr) (tn tc : Nat) (m : Int) (w : World) (h : OpsAt w ao n c.ops) (hn : n ≤ cp) (hcp : cp ≤ 9223372036854775807) (hbn : n * 80 ≤ 140737488355328) (hbl : ∀ g ∈ c.ops, g.ctl.length * 8 ≤ 140737488355328 ∧ g.cnd.length * 8 ≤ 140737488355328)
    (ht : IntsAt w ta tn tl) (htc : tn ≤ tc) (htm : tc ≤ 9223372036854775807) (hbt : tn * 8 ≤ 140737488355328) (hS : Shp w) :
    Calls Tryd.prog 3 #[.agg #[.int .i64 c.qubits, .int .i64 c.bits, .slice ao n cp], .int .i64 q, .slice ta tn tc, .int .i64 m] w fun e w' => e = .returned (.bool true) ∧ Ext w w' := by
  obtain ⟨PI, hPI⟩ : ∃ P, invM c = P := ⟨_, rfl⟩
  obtain ⟨PC, hPC⟩ : ∃ P, ctrM c q = P := ⟨_, rfl⟩
  obtain ⟨PM, hPM⟩ : ∃ P, movM c tl m = P := ⟨_, rfl⟩
  obtain ⟨j0, hj, hy0, hy1, hy2⟩ := info_parts i_info
  have HCc := Lib.hid (fun wx (hx : Ext w wx) => CopyCircuit_N c ao n cp wx (h.ext hx) hbn hbl)
  have HIp := Lib.hid (fun wx (hx : Ext w wx) a1 c1 b (h1 : OpsN wx b (.slice a1 n c1) c.ops) => Inverse_U c a1 n c1 wx h1.at.2.2.2 h1.at.2.1 h1.at.2.2.1 (hS.ext hx))
  have HIr := Lib.hid (fun wx (hx : Ext w wx) => RInverse_U c ao n cp wx (h.ext hx) hn hcp)
  have HTp := Lib.hid (fun wx (hx : Ext w wx) a1 c1 b (h1 : OpsN wx b (.slice a1 n c1) c.ops) => Control_U c a1 n c1 q wx h1.at.2.2.2 h1.at.2.1 h1.at.2.2.1 (hS.ext hx))
  have HTr := Lib.hid (fun wx (hx : Ext w wx) => RControl_U c ao n cp q wx (h.ext hx) hn hcp)
  have HMp := Lib.hid (fun wx (hx : Ext w wx) a1 c1 b (h1 : OpsN wx b (.slice a1 n c1) c.ops) al cl bl (h2 : Iow wx bl al tn cl tl) => Move_U c a1 n c1 tl al tn cl m wx h1.at.2.2.2 h1.at.2.1 h1.at.2.2.1 h2.ints.2.2.1 h2.ints.1 (by have := h2.ints.2.1; unfold maxLen at this; omega) (hS.ext hx))
  have HMr := Lib.hid (fun wx (hx : Ext w wx) => RMove_U c ao n cp tl ta tn tc m wx (h.ext hx) hn hcp (ht.ext hx) htc htm)
  have HBg := Lib.hid (fun wx (hx : Ext w wx) => circBegun_any wx (hS.ext hx))
  have HSc := Lib.hid (fun wx (hx : Ext w wx) a1 c1 b (h1 : OpsN wx b (.slice a1 n c1) c.ops) => sameCircuit_any c a1 n c1 ao cp wx h1.at.2.2.2 (h.ext hx) h1.at.2.1 h1.at.2.2.1 hn hcp)
  have HSi := Lib.hid (fun wx (hx : Ext w wx) al cl bl (h2 : Iow wx bl al tn cl tl) => sameInts_any tl al tn cl ta tc wx h2.ints.2.2.1 (ht.ext hx) h2.ints.1 (by have := h2.ints.2.1; unfold maxLen at this; omega))
  rw [hPI] at HIp HIr
  rw [hPC] at HTp HTr
  rw [hPM] at HMp HMr
  obtain ⟨⟨iu, iv⟩, iq, ib, iops⟩ := PI
  obtain ⟨⟨tu, tv⟩, tq', tb, tops⟩ := PC
  obtain ⟨⟨mu, mv⟩, mq, mb, mops⟩ := PM
  obtain ⟨qa, ba, ops⟩ := c
  unfold Ans at HIp HIr HTp HTr HMp HMr
  simp only at HCc HIp HIr HTp HTr HMp HMr HSc ⊢
  have Ht := Lib.hid ht
  clear hPI hPC hPM h hbl hbn hS ht
  obtain ⟨H, hH⟩ : ∃ H, w.heap.size = H := ⟨_, rfl⟩
  obtain ⟨A1, hA1⟩ : ∃ A1, w.alloc (.cells #[.int .i64 qa, .int .i64 ba, .slice ao n cp] 24) = A1 := ⟨_, rfl⟩
  have s1 : A1.heap.size = H + 1 := by rw [← hA1, ← hH]; simp
  have E0 : Ext w A1 := by rw [← hA1]; exact ext_al _ _
  have bC : CiB A1 H qa ba ao n cp := by rw [← hA1, ← hH]; exact ⟨heap_alloc_new w _⟩
  have m0 := bC.x0; have m1 := bC.x1; have m2 := bC.x2
  rw [← hA1] at m0 m1 m2
  have HA := Lib.hid hA1; have HE0 := Lib.hid E0; have HC0 := Lib.hid bC
  clear hA1 s1 bC E0
  go_enter Tryd.func3, Tryd.ntmps3
  go_wp2_with fail
  rw [HA.out]
  refine (HCc.out A1 HE0.out).mono ?_
  rintro e w1 ⟨⟨a1, c1, rfl, hO1⟩, hx1⟩
  have E1 := ext_al w1 (.cells #[.int .i64 qa, .int .i64 ba, .slice a1 n c1] 24)
  have bG : CiB (w1.alloc (.cells #[.int .i64 qa, .int .i64 ba, .slice a1 n c1] 24)) w1.heap.size qa ba a1 n c1 := ⟨heap_alloc_new w1 _⟩
  have HE1 := Lib.hid ((HE0.out.trans hx1).trans E1); have HC1 := Lib.hid ((HC0.out.ext hx1).ext E1); have HG1 := Lib.hid bG; have HGo1 := Lib.hid (hO1.ext E1)
  have hlo : H + 1 ≤ w1.heap.size := by have := (HC0.out.ext hx1).lt; omega
  clear hx1 hO1 E1 bG HC0 HE0 m0 m1 m2
  go_upto_region 2 with fail
  generalize w1.alloc (.cells #[.int .i64 qa, .int .i64 ba, .slice a1 n c1] 24) = V1 at *
  obtain ⟨G, hG⟩ : ∃ y, w1.heap.size = y := ⟨_, rfl⟩
  rw [hG] at HG1 hlo ⊢
  clear hG
  go_cut [10] from 17 to 18 (fun s10 wx => ∃ (al : Option Addr) (cl : Nat), s10 = .slice al tn cl ∧ Iow wx V1.heap.size al tn cl tl ∧ Ext V1 wx)
  case first =>
    by_cases h0 : tn = 0
    · subst h0
      have hl0 : tl = [] := List.length_eq_zero_iff.1 Ht.out.1
      have Hl0 := Lib.hid hl0
      clear hl0
      cases ta
      · go_wp2_with fail
        go_meet
        exact ⟨none, 0, rfl, by rw [Hl0.out]; exact io_nil _ _, Ext.refl _⟩
      · go_wp2_with fail
        go_meet
        exact ⟨none, 0, rfl, by rw [Hl0.out]; exact io_nil _ _, Ext.refl _⟩
    · obtain ⟨tb', tof, rfl, htb, htc'⟩ := (Ht.out.ext HE1.out).at (by omega)
      have Hcl := Lib.hid (show ∀ j u, (iC tl)[j]? = some u → V1.cell? ((⟨tb', tof, none⟩ : Addr).add j) = some u from fun j u hu => by
        have hjl : j < tl.length := by have := (List.getElem?_eq_some_iff.1 hu).1; rw [iC_length] at this; exact this
        have hadd : (⟨tb', tof, none⟩ : Addr).add j = ⟨tb', tof + j, none⟩ := by unfold Addr.add; split <;> simp_all
        have h5 := htc' j (by rw [← Ht.out.1]; exact hjl)
        rw [hadd, h5, ← hu]
        unfold iC
        rw [List.getElem?_map, List.getElem?_eq_getElem hjl, List.getD_eq_getElem?_getD, List.getElem?_eq_getElem hjl]
        rfl)
      have Hlen := Lib.hid (show (iC tl).length = tn * 1 by rw [iC_length, Ht.out.1]; omega)
      have Hone := Lib.hid (iC_one tl)
      have Hnil := Lib.hid (World.ownsRow_nil V1 V1.heap.size 3 1)
      clear htc' htb
      go_wp2_with (at_builtin; refine wpList_append_own _ rfl _ _ 25 rfl V1.heap.size 3 j0 (.int .i64 0) 1 8 Tryd.underlying25 hj hy0 hy1 hy2 rfl (by decide) _ 0 [] rfl Hnil.out ⟨tb', tof, none⟩ tn tc (iC tl) rfl Hlen.out Hcl.out Hone.out (by unfold maxLen; omega) (by omega) (Nat.le_refl _) ?_; intro v7 w7 hown7 hgr7 _)
      go_meet
      have hown8 : w7.ownsRow V1.heap.size 3 1 v7 tn (iC tl) := by have := hown7; rw [Nat.zero_add, List.nil_append] at this; exact this
      obtain ⟨al, cl, e, hI⟩ := io_of_own hown8
      exact ⟨al, cl, e, hI, grown_ext (Ext.refl _) (show V1.grownBy w7 none from hgr7) (fun k hk => by cases hk)⟩
  case rest =>
  obtain ⟨al, cl, rfl, hIl, hx2⟩ := hcut
  have HE := Lib.hid (HE1.out.trans hx2); have HC := Lib.hid (HC1.out.ext hx2); have HG := Lib.hid (HG1.out.ext hx2); have HGo := Lib.hid (HGo1.out.ext hx2); have HL := Lib.hid hIl
  clear hIl hx2 HE1 HC1 HG1 HGo1 hy0 hy1 hy2 hj
  obtain ⟨V2, rfl⟩ : ∃ V2 : World, V2 = wc := ⟨_, rfl⟩
  have l0 := HG.out.x0; have l1 := HG.out.x1; have l2 := HG.out.x2
  go_wp2_with fail
  refine (HIp.out V2 HE.out a1 c1 _ HGo.out).mono ?_
  rintro e w2 ⟨⟨a2, m2, c2, rfl, hO2⟩, hx2⟩
  clear l0 l1 l2
  have E2 := (ext_al w2 (.cells #[.int .i64 iq, .int .i64 ib, .slice a2 m2 c2] 24)).trans (ext_al (w2.alloc (.cells #[.int .i64 iq, .int .i64 ib, .slice a2 m2 c2] 24)) (.cells #[.int .i64 iu, .int .i64 iv] 28))
  have sz2 : (w2.alloc (.cells #[.int .i64 iq, .int .i64 ib, .slice a2 m2 c2] 24)).heap.size = w2.heap.size + 1 := by simp
  have bX : CiB ((w2.alloc (.cells #[.int .i64 iq, .int .i64 ib, .slice a2 m2 c2] 24)).alloc (.cells #[.int .i64 iu, .int .i64 iv] 28)) w2.heap.size iq ib a2 m2 c2 := CiB.ext ⟨heap_alloc_new w2 _⟩ (ext_al _ _)
  have bF : FtB ((w2.alloc (.cells #[.int .i64 iq, .int .i64 ib, .slice a2 m2 c2] 24)).alloc (.cells #[.int .i64 iu, .int .i64 iv] 28)) (w2.heap.size + 1) iu iv := by rw [← sz2]; exact ⟨heap_alloc_new _ _⟩
  have hX2 := hx2.trans E2
  have HEn := Lib.hid (HE.out.trans hX2); have HCn := Lib.hid (HC.out.ext hX2); have HGn := Lib.hid (HG.out.ext hX2); have HGon := Lib.hid (HGo.out.ext hX2); have HLn := Lib.hid (HL.out.ext hX2); have HX := Lib.hid bX; have HFX := Lib.hid bF; have HOx := Lib.hid (hO2.ext E2)
  have hGX : G < w2.heap.size := (HG.out.ext hx2).lt
  clear hx2 hO2 E2 sz2 bX bF hX2 HE HC HG HGo HL HIp
  have HE := HEn; have HC := HCn; have HG := HGn; have HGo := HGon; have HL := HLn
  clear HEn HCn HGn HGon HLn
  go_upto_region 4 with fail
  generalize ((w2.alloc (.cells #[.int .i64 iq, .int .i64 ib, .slice a2 m2 c2] 24)).alloc (.cells #[.int .i64 iu, .int .i64 iv] 28)) = V3 at *
  obtain ⟨X, hX⟩ : ∃ y, w2.heap.size = y := ⟨_, rfl⟩
  rw [hX] at HX HFX hGX ⊢
  clear hX
  have l0 := HC.out.x0; have l1 := HC.out.x1; have l2 := HC.out.x2
  go_wp2_with fail
  refine (HIr.out V3 HE.out).mono ?_
  rintro e w3 ⟨⟨a3, m3, c3, rfl, hO3⟩, hx3⟩
  clear l0 l1 l2
  have E3 := (ext_al w3 (.cells #[.int .i64 iq, .int .i64 ib, .slice a3 m3 c3] 24)).trans (ext_al (w3.alloc (.cells #[.int .i64 iq, .int .i64 ib, .slice a3 m3 c3] 24)) (.cells #[.int .i64 iu, .int .i64 iv] 28))
  have sz3 : (w3.alloc (.cells #[.int .i64 iq, .int .i64 ib, .slice a3 m3 c3] 24)).heap.size = w3.heap.size + 1 := by simp
  have bY : CiB ((w3.alloc (.cells #[.int .i64 iq, .int .i64 ib, .slice a3 m3 c3] 24)).alloc (.cells #[.int .i64 iu, .int .i64 iv] 28)) w3.heap.size iq ib a3 m3 c3 := CiB.ext ⟨heap_alloc_new w3 _⟩ (ext_al _ _)
  have bF : FtB ((w3.alloc (.cells #[.int .i64 iq, .int .i64 ib, .slice a3 m3 c3] 24)).alloc (.cells #[.int .i64 iu, .int .i64 iv] 28)) (w3.heap.size + 1) iu iv := by rw [← sz3]; exact ⟨heap_alloc_new _ _⟩
  have hX3 := hx3.trans E3
  have HEn := Lib.hid (HE.out.trans hX3); have HCn := Lib.hid (HC.out.ext hX3); have HGn := Lib.hid (HG.out.ext hX3); have HGon := Lib.hid (HGo.out.ext hX3); have HLn := Lib.hid (HL.out.ext hX3); have HXn := Lib.hid (HX.out.ext hX3); have HFXn := Lib.hid (HFX.out.ext hX3); have HOxn := Lib.hid (HOx.out.ext hX3); have HY := Lib.hid bY; have HFY := Lib.hid bF; have HOy := Lib.hid (hO3.ext E3)
  have hXY : X + 1 < w3.heap.size := (HFX.out.ext hx3).lt
  clear hx3 hO3 E3 sz3 bY bF hX3 HE HC HG HGo HL HX HFX HOx HIr
  have HE := HEn; have HC := HCn; have HG := HGn; have HGo := HGon; have HL := HLn; have HX := HXn; have HFX := HFXn; have HOx := HOxn
  clear HEn HCn HGn HGon HLn HXn HFXn HOxn
  go_upto_region 5 with fail
  generalize ((w3.alloc (.cells #[.int .i64 iq, .int .i64 ib, .slice a3 m3 c3] 24)).alloc (.cells #[.int .i64 iu, .int .i64 iv] 28)) = V4 at *
  obtain ⟨Y, hY⟩ : ∃ y, w3.heap.size = y := ⟨_, rfl⟩
  rw [hY] at HY HFY hXY ⊢
  clear hY
  go_wp2_with fail
  refine (HBg.out V4 HE.out).mono ?_
  rintro e w4 ⟨rfl, hx4⟩
  have HEn := Lib.hid (HE.out.trans hx4); have HCn := Lib.hid (HC.out.ext hx4); have HGn := Lib.hid (HG.out.ext hx4); have HGon := Lib.hid (HGo.out.ext hx4); have HLn := Lib.hid (HL.out.ext hx4); have HXn := Lib.hid (HX.out.ext hx4); have HFXn := Lib.hid (HFX.out.ext hx4); have HOxn := Lib.hid (HOx.out.ext hx4); have HYn := Lib.hid (HY.out.ext hx4); have HFYn := Lib.hid (HFY.out.ext hx4); have HOyn := Lib.hid (HOy.out.ext hx4)
  clear hx4 HE HC HG HGo HL HX HFX HOx HY HFY HOy HBg
  have HE := HEn; have HC := HCn; have HG := HGn; have HGo := HGon; have HL := HLn; have HX := HXn; have HFX := HFXn; have HOx := HOxn; have HY := HYn; have HFY := HFYn; have HOy := HOyn
  clear HEn HCn HGn HGon HLn HXn HFXn HOxn HYn HFYn HOyn
  have HAn := Lib.hid (answers_N ⟨iq, ib, iops⟩ _ _ a2 m2 c2 a3 m3 c3 iu iv w4 HOx.out HOy.out)
  simp only at HAn
  have u0 := HX.out.x0; have u1 := HX.out.x1; have u2 := HX.out.x2; have u3 := HFX.out.x0; have u4 := HFX.out.x1; have t0 := HY.out.x0; have t1 := HY.out.x1; have t2 := HY.out.x2; have t3 := HFY.out.x0; have t4 := HFY.out.x1
  go_wp2_with fail
  refine HAn.out.mono ?_
  rintro e w5 ⟨rfl, hx5⟩
  have HCn := Lib.hid (HC.out.ext hx5); have HGn := Lib.hid (HG.out.ext hx5); have HXn := Lib.hid (HX.out.ext hx5); have HFXn := Lib.hid (HFX.out.ext hx5); have HYn := Lib.hid (HY.out.ext hx5); have HFYn := Lib.hid (HFY.out.ext hx5); have HGon := Lib.hid (HGo.out.ext hx5); have HLn := Lib.hid (HL.out.ext hx5); have HEn := Lib.hid (HE.out.trans hx5)
  clear hx5 u0 u1 u2 u3 u4 t0 t1 t2 t3 t4 HC HG HX HFX HY HFY HGo HL HE HAn
  have HC := HCn; have HG := HGn; have HX := HXn; have HFX := HFXn; have HY := HYn; have HFY := HFYn; have HGo := HGon; have HL := HLn; have HE := HEn
  clear HCn HGn HXn HFXn HYn HFYn HGon HLn HEn
  clear HOx HOy
  go_upto_region 7 with fail
  have l0 := HG.out.x0; have l1 := HG.out.x1; have l2 := HG.out.x2
  go_wp2_with fail
  refine (HTp.out w5 HE.out a1 c1 _ HGo.out).mono ?_
  rintro e w6 ⟨⟨a6, m6, c6, rfl, hOa⟩, hxa⟩
  clear l0 l1 l2
  have bXa := HX.out.ext hxa; have bFa := HFX.out.ext hxa
  have r0 := bXa.x0; have r1 := bXa.x1; have r2 := bXa.x2; have g0 := bXa.f 0; have g1 := bXa.f 1; have g2 := bXa.f 2
  have hP1 : Only X w6 (((w6.setCell ⟨X, 0, none⟩ (.int .i64 tq')).setCell ⟨X, 1, none⟩ (.int .i64 tb)).setCell ⟨X, 2, none⟩ (.slice a6 m6 c6)) := (((Only.refl _ _).setCell _ _).setCell _ _).setCell _ _
  have bFb := bFa.kept hP1 (by omega)
  have f0 := bFa.x0; have f1 := bFa.x1; have q0 := bFa.f 0; have q1 := bFa.f 1
  have hP2 := only2 (((w6.setCell ⟨X, 0, none⟩ (.int .i64 tq')).setCell ⟨X, 1, none⟩ (.int .i64 tb)).setCell ⟨X, 2, none⟩ (.slice a6 m6 c6)) (X + 1) (.int .i64 tu) (.int .i64 tv)
  have HCn := Lib.hid (((HC.out.ext hxa).kept hP1 (by omega)).kept hP2 (by omega)); have HGn := Lib.hid (((HG.out.ext hxa).kept hP1 (by omega)).kept hP2 (by omega))
  have HOn := Lib.hid (((HY.out.ext hxa).kept hP1 (by omega)).kept hP2 (by omega)); have HFOn := Lib.hid (((HFY.out.ext hxa).kept hP1 (by omega)).kept hP2 (by omega))
  have HXn := Lib.hid ((((bXa.set0 tq').set1 tb).set2 a6 m6 c6).kept hP2 (by omega)); have HFn := Lib.hid (bFb.put tu tv)
  have HAn0 := Lib.hid ((hOa.far bXa.row (by decide) (by decide) hP1).far bFb.row (by decide) (by decide) hP2)
  have HGon := Lib.hid (((HGo.out.ext hxa).far bXa.row (by decide) (by decide) hP1).far bFb.row (by decide) (by decide) hP2)
  have HLn := Lib.hid (((HL.out.ext hxa).keep (only_ints bXa.row (by decide) hP1)).keep (only_ints bFb.row (by decide) hP2))
  have HEn := Lib.hid (ext_only (ext_only (HE.out.trans hxa) hP1 (by omega)) hP2 (by omega))
  clear hP1 hP2 bXa bFa bFb hOa hxa HC HG HX HFX HY HFY HGo HL HE
  have HC := HCn; have HG := HGn; have HX := HXn; have HFX := HFn; have HY := HOn; have HFY := HFOn; have HGo := HGon; have HL := HLn; have HE := HEn
  clear HCn HGn HXn HFn HOn HFOn HGon HLn HEn
  go_upto_region 8 with fail
  generalize ((((w6.setCell ⟨X, 0, none⟩ (.int .i64 tq')).setCell ⟨X, 1, none⟩ (.int .i64 tb)).setCell ⟨X, 2, none⟩ (.slice a6 m6 c6)).setCell ⟨X + 1, 0, none⟩ (.int .i64 tu)).setCell ⟨X + 1, 1, none⟩ (.int .i64 tv) = V6 at *
  clear r0 r1 r2 g0 g1 g2 f0 f1 q0 q1
  have HOx := HAn0
  clear HAn0
  have l0 := HC.out.x0; have l1 := HC.out.x1; have l2 := HC.out.x2
  go_wp2_with fail
  refine (HTr.out V6 HE.out).mono ?_
  rintro e w7 ⟨⟨a7, m7, c7, rfl, hOa⟩, hxa⟩
  clear l0 l1 l2
  have bXa := HY.out.ext hxa; have bFa := HFY.out.ext hxa
  have r0 := bXa.x0; have r1 := bXa.x1; have r2 := bXa.x2; have g0 := bXa.f 0; have g1 := bXa.f 1; have g2 := bXa.f 2
  have hP1 : Only Y w7 (((w7.setCell ⟨Y, 0, none⟩ (.int .i64 tq')).setCell ⟨Y, 1, none⟩ (.int .i64 tb)).setCell ⟨Y, 2, none⟩ (.slice a7 m7 c7)) := (((Only.refl _ _).setCell _ _).setCell _ _).setCell _ _
  have bFb := bFa.kept hP1 (by omega)
  have f0 := bFa.x0; have f1 := bFa.x1; have q0 := bFa.f 0; have q1 := bFa.f 1
  have hP2 := only2 (((w7.setCell ⟨Y, 0, none⟩ (.int .i64 tq')).setCell ⟨Y, 1, none⟩ (.int .i64 tb)).setCell ⟨Y, 2, none⟩ (.slice a7 m7 c7)) (Y + 1) (.int .i64 tu) (.int .i64 tv)
  have HCn := Lib.hid (((HC.out.ext hxa).kept hP1 (by omega)).kept hP2 (by omega)); have HGn := Lib.hid (((HG.out.ext hxa).kept hP1 (by omega)).kept hP2 (by omega))
  have HOn := Lib.hid (((HX.out.ext hxa).kept hP1 (by omega)).kept hP2 (by omega)); have HFOn := Lib.hid (((HFX.out.ext hxa).kept hP1 (by omega)).kept hP2 (by omega))
  have HXn := Lib.hid ((((bXa.set0 tq').set1 tb).set2 a7 m7 c7).kept hP2 (by omega)); have HFn := Lib.hid (bFb.put tu tv)
  have HAn0 := Lib.hid ((hOa.far bXa.row (by decide) (by decide) hP1).far bFb.row (by decide) (by decide) hP2)
  have HGon := Lib.hid (((HGo.out.ext hxa).far bXa.row (by decide) (by decide) hP1).far bFb.row (by decide) (by decide) hP2)
  have HLn := Lib.hid (((HL.out.ext hxa).keep (only_ints bXa.row (by decide) hP1)).keep (only_ints bFb.row (by decide) hP2))
  have HEn := Lib.hid (ext_only (ext_only (HE.out.trans hxa) hP1 (by omega)) hP2 (by omega))
  have HOld := Lib.hid (((HOx.out.ext hxa).far bXa.row (by decide) (by decide) hP1).far bFb.row (by decide) (by decide) hP2)
  clear hP1 hP2 bXa bFa bFb hOa hxa HC HG HY HFY HX HFX HGo HL HE HOx
  have HC := HCn; have HG := HGn; have HY := HXn; have HFY := HFn; have HX := HOn; have HFX := HFOn; have HGo := HGon; have HL := HLn; have HE := HEn
  clear HCn HGn HXn HFn HOn HFOn HGon HLn HEn
  go_upto_region 9 with fail
  generalize ((((w7.setCell ⟨Y, 0, none⟩ (.int .i64 tq')).setCell ⟨Y, 1, none⟩ (.int .i64 tb)).setCell ⟨Y, 2, none⟩ (.slice a7 m7 c7)).setCell ⟨Y + 1, 0, none⟩ (.int .i64 tu)).setCell ⟨Y + 1, 1, none⟩ (.int .i64 tv) = V7 at *
  clear r0 r1 r2 g0 g1 g2 f0 f1 q0 q1
  have HOy := HAn0; have HOx := HOld
  clear HAn0 HOld
  have HAn := Lib.hid (answers_N ⟨tq', tb, tops⟩ _ _ a6 m6 c6 a7 m7 c7 tu tv V7 HOx.out HOy.out)
  simp only at HAn
  have u0 := HX.out.x0; have u1 := HX.out.x1; have u2 := HX.out.x2; have u3 := HFX.out.x0; have u4 := HFX.out.x1; have t0 := HY.out.x0; have t1 := HY.out.x1; have t2 := HY.out.x2; have t3 := HFY.out.x0; have t4 := HFY.out.x1
  go_wp2_with fail
  refine HAn.out.mono ?_
  rintro e w8 ⟨rfl, hx5⟩
  have HCn := Lib.hid (HC.out.ext hx5); have HGn := Lib.hid (HG.out.ext hx5); have HXn := Lib.hid (HX.out.ext hx5); have HFXn := Lib.hid (HFX.out.ext hx5); have HYn := Lib.hid (HY.out.ext hx5); have HFYn := Lib.hid (HFY.out.ext hx5); have HGon := Lib.hid (HGo.out.ext hx5); have HLn := Lib.hid (HL.out.ext hx5); have HEn := Lib.hid (HE.out.trans hx5)
  clear hx5 u0 u1 u2 u3 u4 t0 t1 t2 t3 t4 HC HG HX HFX HY HFY HGo HL HE HAn
  have HC := HCn; have HG := HGn; have HX := HXn; have HFX := HFXn; have HY := HYn; have HFY := HFYn; have HGo := HGon; have HL := HLn; have HE := HEn
  clear HCn HGn HXn HFXn HYn HFYn HGon HLn HEn
  clear HOx HOy
  go_upto_region 11 with fail
  have l0 := HG.out.x0; have l1 := HG.out.x1; have l2 := HG.out.x2
  go_wp2_with fail
  refine (HMp.out w8 HE.out a1 c1 _ HGo.out al cl _ HL.out).mono ?_
  rintro e w9 ⟨⟨a9, m9, c9, rfl, hOa⟩, hxa⟩
  clear l0 l1 l2
  have bXa := HX.out.ext hxa; have bFa := HFX.out.ext hxa
  have r0 := bXa.x0; have r1 := bXa.x1; have r2 := bXa.x2; have g0 := bXa.f 0; have g1 := bXa.f 1; have g2 := bXa.f 2
  have hP1 : Only X w9 (((w9.setCell ⟨X, 0, none⟩ (.int .i64 mq)).setCell ⟨X, 1, none⟩ (.int .i64 mb)).setCell ⟨X, 2, none⟩ (.slice a9 m9 c9)) := (((Only.refl _ _).setCell _ _).setCell _ _).setCell _ _
  have bFb := bFa.kept hP1 (by omega)
  have f0 := bFa.x0; have f1 := bFa.x1; have q0 := bFa.f 0; have q1 := bFa.f 1
  have hP2 := only2 (((w9.setCell ⟨X, 0, none⟩ (.int .i64 mq)).setCell ⟨X, 1, none⟩ (.int .i64 mb)).setCell ⟨X, 2, none⟩ (.slice a9 m9 c9)) (X + 1) (.int .i64 mu) (.int .i64 mv)
  have HCn := Lib.hid (((HC.out.ext hxa).kept hP1 (by omega)).kept hP2 (by omega)); have HGn := Lib.hid (((HG.out.ext hxa).kept hP1 (by omega)).kept hP2 (by omega))
  have HOn := Lib.hid (((HY.out.ext hxa).kept hP1 (by omega)).kept hP2 (by omega)); have HFOn := Lib.hid (((HFY.out.ext hxa).kept hP1 (by omega)).kept hP2 (by omega))
  have HXn := Lib.hid ((((bXa.set0 mq).set1 mb).set2 a9 m9 c9).kept hP2 (by omega)); have HFn := Lib.hid (bFb.put mu mv)
  have HAn0 := Lib.hid ((hOa.far bXa.row (by decide) (by decide) hP1).far bFb.row (by decide) (by decide) hP2)
  have HGon := Lib.hid (((HGo.out.ext hxa).far bXa.row (by decide) (by decide) hP1).far bFb.row (by decide) (by decide) hP2)
  have HLn := Lib.hid (((HL.out.ext hxa).keep (only_ints bXa.row (by decide) hP1)).keep (only_ints bFb.row (by decide) hP2))
  have HEn := Lib.hid (ext_only (ext_only (HE.out.trans hxa) hP1 (by omega)) hP2 (by omega))
  clear hP1 hP2 bXa bFa bFb hOa hxa HC HG HX HFX HY HFY HGo HL HE
  have HC := HCn; have HG := HGn; have HX := HXn; have HFX := HFn; have HY := HOn; have HFY := HFOn; have HGo := HGon; have HL := HLn; have HE := HEn
  clear HCn HGn HXn HFn HOn HFOn HGon HLn HEn
  go_upto_region 12 with fail
  generalize ((((w9.setCell ⟨X, 0, none⟩ (.int .i64 mq)).setCell ⟨X, 1, none⟩ (.int .i64 mb)).setCell ⟨X, 2, none⟩ (.slice a9 m9 c9)).setCell ⟨X + 1, 0, none⟩ (.int .i64 mu)).setCell ⟨X + 1, 1, none⟩ (.int .i64 mv) = V9 at *
  clear r0 r1 r2 g0 g1 g2 f0 f1 q0 q1
  have HOx := HAn0
  clear HAn0
  have l0 := HC.out.x0; have l1 := HC.out.x1; have l2 := HC.out.x2
  go_wp2_with fail
  refine (HMr.out V9 HE.out).mono ?_
  rintro e wa ⟨⟨aa, ma, ca, rfl, hOa⟩, hxa⟩
  clear l0 l1 l2
  have bXa := HY.out.ext hxa; have bFa := HFY.out.ext hxa
  have r0 := bXa.x0; have r1 := bXa.x1; have r2 := bXa.x2; have g0 := bXa.f 0; have g1 := bXa.f 1; have g2 := bXa.f 2
  have hP1 : Only Y wa (((wa.setCell ⟨Y, 0, none⟩ (.int .i64 mq)).setCell ⟨Y, 1, none⟩ (.int .i64 mb)).setCell ⟨Y, 2, none⟩ (.slice aa ma ca)) := (((Only.refl _ _).setCell _ _).setCell _ _).setCell _ _
  have bFb := bFa.kept hP1 (by omega)
  have f0 := bFa.x0; have f1 := bFa.x1; have q0 := bFa.f 0; have q1 := bFa.f 1
  have hP2 := only2 (((wa.setCell ⟨Y, 0, none⟩ (.int .i64 mq)).setCell ⟨Y, 1, none⟩ (.int .i64 mb)).setCell ⟨Y, 2, none⟩ (.slice aa ma ca)) (Y + 1) (.int .i64 mu) (.int .i64 mv)
  have HCn := Lib.hid (((HC.out.ext hxa).kept hP1 (by omega)).kept hP2 (by omega)); have HGn := Lib.hid (((HG.out.ext hxa).kept hP1 (by omega)).kept hP2 (by omega))
  have HOn := Lib.hid (((HX.out.ext hxa).kept hP1 (by omega)).kept hP2 (by omega)); have HFOn := Lib.hid (((HFX.out.ext hxa).kept hP1 (by omega)).kept hP2 (by omega))
  have HXn := Lib.hid ((((bXa.set0 mq).set1 mb).set2 aa ma ca).kept hP2 (by omega)); have HFn := Lib.hid (bFb.put mu mv)
  have HAn0 := Lib.hid ((hOa.far bXa.row (by decide) (by decide) hP1).far bFb.row (by decide) (by decide) hP2)
  have HGon := Lib.hid (((HGo.out.ext hxa).far bXa.row (by decide) (by decide) hP1).far bFb.row (by decide) (by decide) hP2)
  have HLn := Lib.hid (((HL.out.ext hxa).keep (only_ints bXa.row (by decide) hP1)).keep (only_ints bFb.row (by decide) hP2))
  have HEn := Lib.hid (ext_only (ext_only (HE.out.trans hxa) hP1 (by omega)) hP2 (by omega))
  have HOld := Lib.hid (((HOx.out.ext hxa).far bXa.row (by decide) (by decide) hP1).far bFb.row (by decide) (by decide) hP2)
  clear hP1 hP2 bXa bFa bFb hOa hxa HC HG HY HFY HX HFX HGo HL HE HOx
  have HC := HCn; have HG := HGn; have HY := HXn; have HFY := HFn; have HX := HOn; have HFX := HFOn; have HGo := HGon; have HL := HLn; have HE := HEn
  clear HCn HGn HXn HFn HOn HFOn HGon HLn HEn
  go_upto_region 13 with fail
  generalize ((((wa.setCell ⟨Y, 0, none⟩ (.int .i64 mq)).setCell ⟨Y, 1, none⟩ (.int .i64 mb)).setCell ⟨Y, 2, none⟩ (.slice aa ma ca)).setCell ⟨Y + 1, 0, none⟩ (.int .i64 mu)).setCell ⟨Y + 1, 1, none⟩ (.int .i64 mv) = Va at *
  clear r0 r1 r2 g0 g1 g2 f0 f1 q0 q1
  have HOy := HAn0; have HOx := HOld
  clear HAn0 HOld
  have HAn := Lib.hid (answers_N ⟨mq, mb, mops⟩ _ _ a9 m9 c9 aa ma ca mu mv Va HOx.out HOy.out)
  simp only at HAn
  have u0 := HX.out.x0; have u1 := HX.out.x1; have u2 := HX.out.x2; have u3 := HFX.out.x0; have u4 := HFX.out.x1; have t0 := HY.out.x0; have t1 := HY.out.x1; have t2 := HY.out.x2; have t3 := HFY.out.x0; have t4 := HFY.out.x1
  go_wp2_with fail
  refine HAn.out.mono ?_
  rintro e wb ⟨rfl, hx5⟩
  have HCn := Lib.hid (HC.out.ext hx5); have HGn := Lib.hid (HG.out.ext hx5); have HXn := Lib.hid (HX.out.ext hx5); have HFXn := Lib.hid (HFX.out.ext hx5); have HYn := Lib.hid (HY.out.ext hx5); have HFYn := Lib.hid (HFY.out.ext hx5); have HGon := Lib.hid (HGo.out.ext hx5); have HLn := Lib.hid (HL.out.ext hx5); have HEn := Lib.hid (HE.out.trans hx5)
  clear hx5 u0 u1 u2 u3 u4 t0 t1 t2 t3 t4 HC HG HX HFX HY HFY HGo HL HE HAn
  have HC := HCn; have HG := HGn; have HX := HXn; have HFX := HFXn; have HY := HYn; have HFY := HFYn; have HGo := HGon; have HL := HLn; have HE := HEn
  clear HCn HGn HXn HFXn HYn HFYn HGon HLn HEn
  clear HOx HOy
  have HSc1 := Lib.hid (HSc.out wb HE.out a1 c1 _ HGo.out)
  have l0 := HC.out.x0; have l1 := HC.out.x1; have l2 := HC.out.x2; have k0 := HG.out.x0; have k1 := HG.out.x1; have k2 := HG.out.x2
  go_wp2_with fail
  refine HSc1.out.mono ?_
  rintro e wd ⟨rfl, hxd⟩
  have HEd := Lib.hid (HE.out.trans hxd)
  have HSi1 := Lib.hid (HSi.out wd HEd.out al cl _ (HL.out.ext hxd))
  clear hxd l0 l1 l2 k0 k1 k2 HSc1
  go_wp2_with fail
  refine HSi1.out.mono ?_
  rintro e we ⟨rfl, hxe⟩
  have HEe := Lib.hid (HEd.out.trans hxe)
  clear hxe
  go_wp2_with fail
  go_ret
  exact ⟨rfl, HEe.out⟩

end Go.Proofs.YtapolidgocfbjaaDoor
namespace Go.Proofs.YtapolidgocfbjaaDoor
open Go.RowKit Go.ChangeShapes Go.WideShapes Go.Deep

instance : Inhabited Gop := ⟨⟨0, 0, [], 0, 0, []⟩⟩

theorem addr_at (b o t : Nat) : (⟨b, o, none⟩ : Addr).add t = ⟨b, o + t, none⟩ := by
  unfold Addr.add
  by_cases h : t = 0 <;> simp [h]

section
variable {H : Type} {enc : TypeId × Value → H} {W : World}

theorem bytes_int : Tryd.prog.bytesOf 3 = 8 := by kernel_rfl
theorem bytes_op : Tryd.prog.bytesOf 43 = 80 := by kernel_rfl
theorem cells_int : Tryd.prog.cellsOf 3 = 1 := by kernel_rfl
theorem cells_op : Tryd.prog.cellsOf 43 = 6 := by kernel_rfl
theorem cells_ci : Tryd.prog.cellsOf 24 = 3 := by kernel_rfl

theorem open_ints {fuel : Nat} {cs : List Value} {x : DataW H × List MemPlace} (h : DataW.trod enc Tryd.prog W 0 (fun _ => true) true fuel 25 cs = some x) (hz : ∀ k ∈ x.1.weights Tryd.prog 25, k ≤ reachBytes) :
    ∃ (ao : Option Addr) (n cp : Nat) (l : List Int), cs = [.slice ao n cp] ∧ n ≤ cp ∧ cp ≤ 9223372036854775807 ∧ IntsAt W ao n l ∧ l.length * 8 ≤ 140737488355328 := by
  rcases open_slice1 Tryd.underlying25 cells_int h with ⟨rfl, rfl⟩ | ⟨a, len, cap, m, n, V, D, Pl, rfl, _, hl, hm, hmm, rfl, hx⟩
  · exact ⟨none, 0, 0, [], rfl, by omega, by omega, ⟨rfl, Or.inl rfl⟩, by simp⟩
  · have hmc : m = cap := by simpa using hmm
    subst hmc
    obtain ⟨F, hF⟩ := choose_lt (α := Int) (n := m) (p := fun i z => W.cell? (a.add i) = some (.int .i64 z)) (fun i hi => by
      obtain ⟨h1, h2⟩ := hx i hi
      obtain ⟨z, e, _⟩ := DataW.trod_int Tryd.underlying3 h2
      injection e with e
      exact ⟨z, by rw [h1, e]⟩)
    refine ⟨some a, len, m, (List.range len).map F, rfl, hl, hm, ⟨by simp, ?_⟩, ?_⟩
    · by_cases h0 : len = 0
      · exact Or.inl h0
      · obtain ⟨b, o, spot⟩ := a
        have h1 := hF 0 (by omega)
        have hs : spot = none := by simpa [Addr.add] using World.cell?_spot h1
        subst hs
        refine Or.inr ⟨b, o, rfl, World.block_lt_of_cell? W _ h1, fun t ht => ?_⟩
        have := hF t (by omega)
        rw [addr_at] at this
        simpa [List.getD_eq_getElem?_getD, ht] using this
    · have := hz ((len + (m - len)) * Tryd.prog.bytesOf 3) (by simp [DataW.weights, Tryd.underlying25])
      rw [bytes_int] at this
      have hr : reachBytes ≤ 140737488355328 := by decide
      rw [List.length_map, List.length_range]
      omega

set_option maxRecDepth 100000 in
theorem open_op {fuel : Nat} {cs : List Value} {x : DataW H × List MemPlace} (h : DataW.trod enc Tryd.prog W 0 (fun _ => true) true fuel 43 cs = some x) (hz : ∀ k ∈ x.1.weights Tryd.prog 43, k ≤ reachBytes) :
    ∃ (o : Gop) (a1 : Option Addr) (n1 c1 : Nat) (a2 : Option Addr) (n2 c2 : Nat), cs = [.int .i64 o.kind, .int .i64 o.k, .slice a1 n1 c1, .int .i64 o.q, .int .i64 o.bit, .slice a2 n2 c2] ∧ OpL W o a1 n1 c1 a2 n2 c2 ∧ o.ctl.length * 8 ≤ 140737488355328 ∧ o.cnd.length * 8 ≤ 140737488355328 := by
  obtain ⟨xs, n, _, rfl, hl, hlen, hf⟩ := DataW.trod_struct Tryd.underlying43 h
  rw [cells_op] at hl
  match xs, hlen, cs, hl with
  | [y0, y1, y2, y3, y4, y5], _, [v0, v1, v2, v3, v4, v5], _ =>
    have g0 := hf 0 _ rfl
    have g1 := hf 1 _ rfl
    have g2 := hf 2 _ rfl
    have g3 := hf 3 _ rfl
    have g4 := hf 4 _ rfl
    have g5 := hf 5 _ rfl
    simp only [List.getElem?_cons_zero, List.getElem?_cons_succ] at g0 g1 g2 g3 g4 g5
    obtain ⟨k0, e0, _⟩ := DataW.trod_int Tryd.underlying3 g0
    obtain ⟨k1, e1, _⟩ := DataW.trod_int Tryd.underlying3 g1
    obtain ⟨k3, e3, _⟩ := DataW.trod_int Tryd.underlying3 g3
    obtain ⟨k4, e4, _⟩ := DataW.trod_int Tryd.underlying3 g4
    obtain ⟨a1, n1, c1, l1, e2, p2, q2, I2, b2⟩ := open_ints g2 (fun k hk => hz k (by simp [DataW.weights, Tryd.underlying43, DataW.weightsEach, hk]))
    obtain ⟨a2, n2, c2, l2, e5, p5, q5, I5, b5⟩ := open_ints g5 (fun k hk => hz k (by simp [DataW.weights, Tryd.underlying43, DataW.weightsEach, hk]))
    injection e0 with e0; injection e1 with e1; injection e2 with e2; injection e3 with e3; injection e4 with e4; injection e5 with e5
    exact ⟨⟨k0, k1, l1, k3, k4, l2⟩, a1, n1, c1, a2, n2, c2, by rw [e0, e1, e2, e3, e4, e5], ⟨I2, p2, q2, I5, p5, q5⟩, b2, b5⟩

set_option maxRecDepth 100000 in
theorem open_circuit {v : Value} {d : DataW H} {p : List MemPlace} {base : Nat} (hok : Value.okWide Tryd.prog W .any base 24 v) (h : DataW.Trod enc Tryd.prog W 0 (fun _ => true) true 24 v d p) (hz : ∀ k ∈ d.weights Tryd.prog 24, k ≤ reachBytes) :
    ∃ (c : Gci) (ao : Option Addr) (n cp : Nat), v = .agg #[.int .i64 c.qubits, .int .i64 c.bits, .slice ao n cp] ∧ OpsAt W ao n c.ops ∧ n ≤ cp ∧ cp ≤ 9223372036854775807 ∧ n * 80 ≤ 140737488355328 ∧ ∀ g ∈ c.ops, g.ctl.length * 8 ≤ 140737488355328 ∧ g.cnd.length * 8 ≤ 140737488355328 := by
  obtain ⟨fuel, h⟩ := h
  have hv : ∃ cs : Array Value, v = .agg cs := by
    unfold Value.okWide at hok
    rw [Tryd.underlying24] at hok
    obtain ⟨cs, e, _⟩ := hok
    exact ⟨cs, e⟩
  obtain ⟨cs, rfl⟩ := hv
  obtain ⟨xs, n, _, hx0, hl, hlen, hf⟩ := DataW.trod_struct Tryd.underlying24 h
  obtain ⟨cl⟩ := cs
  have hcl : (Value.agg ⟨cl⟩).cells.toList = cl := rfl
  rw [hcl] at hl hf
  rw [cells_ci] at hl
  match xs, hlen, cl, hl with
  | [y0, y1, y2], _, [v0, v1, v2], _ =>
    injection hx0 with hd hp
    subst hd
    have g0 := hf 0 _ rfl
    have g1 := hf 1 _ rfl
    have g2 := hf 2 _ rfl
    simp only [List.getElem?_cons_zero, List.getElem?_cons_succ] at g0 g1 g2
    obtain ⟨qb, e0, _⟩ := DataW.trod_int Tryd.underlying3 g0
    obtain ⟨bi, e1, _⟩ := DataW.trod_int Tryd.underlying3 g1
    injection e0 with e0; injection e1 with e1
    have hz2 : ∀ k ∈ y2.1.weights Tryd.prog 22, k ≤ reachBytes := fun k hk => hz k (by simp [DataW.weights, Tryd.underlying24, DataW.weightsEach, hk])
    rcases open_slice Tryd.underlying22 g2 with ⟨e2, _⟩ | ⟨a, len, cap, m, n', D, Pl, e2, _, hl2, hm2, hmm, hy2, hx⟩
    · injection e2 with e2
      refine ⟨⟨qb, bi, []⟩, none, 0, 0, by rw [e0, e1, e2], ⟨rfl, Or.inl rfl⟩, by omega, by omega, by omega, by simp⟩
    · injection e2 with e2
      have hmc : m = cap := by simpa using hmm
      subst hmc
      rw [cells_op] at hx
      subst hy2
      have hr : reachBytes ≤ 140737488355328 := by decide
      have hb := hz2 ((len + (m - len)) * Tryd.prog.bytesOf 43) (by simp [DataW.weights, Tryd.underlying22])
      rw [bytes_op] at hb
      have hel : ∀ i, i < len → ∀ k ∈ (D i).weights Tryd.prog 43, k ≤ reachBytes := by
        intro i hi k hk
        refine hz2 k ?_
        have hmem : ∀ (l : List (DataW H)) (d : DataW H), d ∈ l → ∀ k ∈ d.weights Tryd.prog 43, k ∈ DataW.weightsAll Tryd.prog 43 l := by
          intro l
          induction l with
          | nil => intro d hd; simp at hd
          | cons a r ih =>
            intro d hd k hk
            rw [DataW.weightsAll, List.mem_append]
            rcases List.mem_cons.1 hd with rfl | hd
            · exact Or.inl hk
            · exact Or.inr (ih d hd k hk)
        have := hmem ((List.range len).map D) (D i) (List.mem_map.2 ⟨i, List.mem_range.2 hi, rfl⟩) k hk
        simp only [DataW.weights, Tryd.underlying22]
        exact List.mem_cons_of_mem _ (List.mem_append_left _ this)
      obtain ⟨b, o, spot⟩ := a
      have hpos : 0 < len → spot = none := fun h0 => by
        obtain ⟨cs', h1, _⟩ := hx 0 (by omega)
        obtain ⟨_, hlen', hc⟩ := World.cells?_some h1
        have h2 := hc 0 (by omega)
        rw [List.getElem?_eq_getElem (by omega)] at h2
        simpa [Addr.add] using World.cell?_spot h2
      obtain ⟨G, hG⟩ := choose_lt (α := Gop) (n := len) (p := fun i g => ∃ (a1 : Option Addr) (n1 c1 : Nat) (a2 : Option Addr) (n2 c2 : Nat), W.cell? ⟨b, o + i * 6, none⟩ = some (.int .i64 g.kind) ∧ W.cell? ⟨b, o + i * 6 + 1, none⟩ = some (.int .i64 g.k) ∧ W.cell? ⟨b, o + i * 6 + 2, none⟩ = some (.slice a1 n1 c1) ∧ W.cell? ⟨b, o + i * 6 + 3, none⟩ = some (.int .i64 g.q) ∧ W.cell? ⟨b, o + i * 6 + 4, none⟩ = some (.int .i64 g.bit) ∧ W.cell? ⟨b, o + i * 6 + 5, none⟩ = some (.slice a2 n2 c2) ∧ OpL W g a1 n1 c1 a2 n2 c2 ∧ g.ctl.length * 8 ≤ 140737488355328 ∧ g.cnd.length * 8 ≤ 140737488355328) (fun i hi => by
        obtain rfl := hpos (by omega)
        obtain ⟨cs', h1, h2⟩ := hx i (by omega)
        obtain ⟨_, _, hc⟩ := World.cells?_some h1
        obtain ⟨g, a1, n1, c1, a2, n2, c2, rfl, hL, b1, b2⟩ := open_op h2 (hel i hi)
        have hc' : ∀ j, j < 6 → W.cell? ⟨b, o + i * 6 + j, none⟩ = ([.int .i64 g.kind, .int .i64 g.k, .slice a1 n1 c1, .int .i64 g.q, .int .i64 g.bit, .slice a2 n2 c2] : List Value)[j]? := fun j hj => by have := hc j hj; rw [add_add, addr_at, ← Nat.add_assoc] at this; exact this
        exact ⟨g, a1, n1, c1, a2, n2, c2, hc' 0 (by omega), hc' 1 (by omega), hc' 2 (by omega), hc' 3 (by omega), hc' 4 (by omega), hc' 5 (by omega), hL, b1, b2⟩)
      refine ⟨⟨qb, bi, (List.range len).map G⟩, some ⟨b, o, spot⟩, len, m, by rw [e0, e1, e2], ⟨by simp, ?_⟩, hl2, hm2, by omega, ?_⟩
      · by_cases h0 : len = 0
        · exact Or.inl h0
        · obtain rfl := hpos (by omega)
          obtain ⟨_, _, _, _, _, _, hc0, _⟩ := hG 0 (by omega)
          refine Or.inr ⟨b, o, rfl, World.block_lt_of_cell? W _ hc0, fun t g hg => ?_⟩
          have ht : t < len := by
            have := (List.getElem?_eq_some_iff.1 hg).1
            simpa using this
          have hge : g = G t := by
            have := hg
            simp [ht] at this
            exact this.symm
          subst hge
          obtain ⟨a1, n1, c1, a2, n2, c2, x0, x1, x2, x3, x4, x5, hL, _, _⟩ := hG t ht
          exact ⟨a1, n1, c1, a2, n2, c2, x0, x1, x2, x3, x4, x5, hL⟩
      · intro g hg
        simp only [List.mem_map, List.mem_range] at hg
        obtain ⟨i, hi, rfl⟩ := hg
        obtain ⟨_, _, _, _, _, _, _, _, _, _, _, _, _, b1, b2⟩ := hG i hi
        exact ⟨b1, b2⟩
end

end Go.Proofs.YtapolidgocfbjaaDoor
namespace Go.Proofs.YtapolidgocfbjaaDoor
open Go.RowKit Go.ChangeShapes Go.WideShapes Go.Deep

section
variable {H : Type} {enc : TypeId × Value → H} {W : World}
theorem open_list {v : Value} {d : DataW H} {p : List MemPlace} {base : Nat} (hok : Value.okWide Tryd.prog W .any base 25 v) (h : DataW.Trod enc Tryd.prog W 0 (fun _ => true) true 25 v d p) (hz : ∀ k ∈ d.weights Tryd.prog 25, k ≤ reachBytes) :
    ∃ (ao : Option Addr) (n cp : Nat) (l : List Int), v = .slice ao n cp ∧ n ≤ cp ∧ cp ≤ 9223372036854775807 ∧ IntsAt W ao n l ∧ n * 8 ≤ 140737488355328 := by
  obtain ⟨fuel, h⟩ := h
  have hv : ∃ a n c, v = .slice a n c := by
    cases v <;> simp [Value.okWide, Cell.okWide, Cell.ok, Tryd.underlying25] at hok
    exact ⟨_, _, _, rfl⟩
  obtain ⟨a, n, c, rfl⟩ := hv
  obtain ⟨ao, n', cp, l, e, h1, h2, h3, h4⟩ := open_ints h hz
  have hc : (Value.slice a n c).cells.toList = [.slice a n c] := rfl
  rw [hc] at e
  injection e with e
  injection e with e1 e2 e3
  subst e1; subst e2; subst e3
  exact ⟨a, n, c, l, rfl, h1, h2, h3, by rw [← h3.1]; exact h4⟩
end

end Go.Proofs.YtapolidgocfbjaaDoor
namespace Go.Proofs.YtapolidgocfbjaaDoor
open Go.RowKit Go.ChangeShapes Go.WideShapes

set_option maxRecDepth 100000 in
theorem shape_row {H : Type} {enc : TypeId × Value → H} {W : World} {base : Nat} {sp : Nat → Bool} {held : Bool} {fuel : Nat} {cs : List Value} {s : List UInt8} {a b c d : Bool} {p : List MemPlace}
    (h : DataW.trod enc Tryd.prog W base sp held fuel 77 cs = some (.agg [.lit (.string s), .lit (.bool a), .lit (.bool b), .lit (.bool c), .lit (.bool d)], p)) :
    cs = [.string ⟨s.toArray⟩, .bool a, .bool b, .bool c, .bool d] := by
  obtain ⟨xs, n, _, hx, hl, hlen, hf⟩ := DataW.trod_struct Tryd.underlying77 h
  have hc : Tryd.prog.cellsOf 77 = 5 := by kernel_rfl
  rw [hc] at hl
  match xs, hlen, cs, hl with
  | [y0, y1, y2, y3, y4], _, [v0, v1, v2, v3, v4], _ =>
    have g0 := hf 0 _ rfl
    have g1 := hf 1 _ rfl
    have g2 := hf 2 _ rfl
    have g3 := hf 3 _ rfl
    have g4 := hf 4 _ rfl
    simp only [List.getElem?_cons_zero, List.getElem?_cons_succ] at g0 g1 g2 g3 g4
    obtain ⟨s0, e0, z0, _⟩ := DataW.trod_string Tryd.underlying9 g0
    obtain ⟨b1, e1, z1⟩ := DataW.trod_bool Tryd.underlying4 g1
    obtain ⟨b2, e2, z2⟩ := DataW.trod_bool Tryd.underlying4 g2
    obtain ⟨b3, e3, z3⟩ := DataW.trod_bool Tryd.underlying4 g3
    obtain ⟨b4, e4, z4⟩ := DataW.trod_bool Tryd.underlying4 g4
    subst z0; subst z1; subst z2; subst z3; subst z4
    injection hx with hd _
    simp only [List.map_cons, List.map_nil, DataW.agg.injEq, List.cons.injEq, DataW.lit.injEq, Lit.string.injEq, Lit.bool.injEq, and_true] at hd
    obtain ⟨rfl, rfl, rfl, rfl, rfl⟩ := hd
    injection e0 with e0; injection e1 with e1; injection e2 with e2; injection e3 with e3; injection e4 with e4
    rw [e0, e1, e2, e3, e4]

set_option maxRecDepth 100000 in
theorem shp_of_laid {W : World} (h : laidMet Tryd.prog [("qloom/circ.shapes", Rows.laid_qloom_circ_shapes)] W) : Shp W := by
  obtain ⟨ps, ⟨g', t', cs, fuel, p, q, hg', ht', hvar, hd, _, _⟩, _⟩ := h
  obtain rfl := Option.some.inj ((show Tryd.prog.globalNamed "qloom/circ.shapes" = some 0 by kernel_rfl).symm.trans hg')
  obtain rfl := Option.some.inj ((show (Tryd.prog.globals[0]?).map (·.type) = some 78 by kernel_rfl).symm.trans ht')
  obtain ⟨xs, m, _, hx, hl, hlen, hf⟩ := DataW.trod_array Tryd.underlying78 hd
  have hc : Tryd.prog.cellsOf 77 = 5 := by kernel_rfl
  rw [hc] at hf
  match xs, hlen with
  | [y0, y1, y2, y3, y4, y5, y6], _ =>
    injection hx with hx _
    unfold Rows.laid_qloom_circ_shapes at hx
    simp only [List.map_cons, List.map_nil, DataW.agg.injEq, List.cons.injEq, and_true] at hx
    obtain ⟨_, x1, x2, x3, x4, x5, x6⟩ := hx
    have key : ∀ (k : Nat) (y : DataW Unit × List MemPlace) (s : List UInt8) (a b c d : Bool), k < 7 → [y0, y1, y2, y3, y4, y5, y6][k]? = some y → .agg [.lit (.string s), .lit (.bool a), .lit (.bool b), .lit (.bool c), .lit (.bool d)] = y.1 →
        W.cell? ⟨0, k * 5, none⟩ = some (.string ⟨s.toArray⟩) ∧ W.cell? ⟨0, k * 5 + 1, none⟩ = some (.bool a) ∧ W.cell? ⟨0, k * 5 + 2, none⟩ = some (.bool b) ∧ W.cell? ⟨0, k * 5 + 3, none⟩ = some (.bool c) ∧ W.cell? ⟨0, k * 5 + 4, none⟩ = some (.bool d) := by
      intro k y s a b c d hk hy he
      have h1 := hf k hk
      rw [hy] at h1
      obtain ⟨yd, yp⟩ := y
      simp only at he
      subst he
      have h2 := shape_row h1
      have h3 : ∀ j, j < 5 → W.cell? ⟨0, k * 5 + j, none⟩ = ([.string ⟨s.toArray⟩, .bool a, .bool b, .bool c, .bool d] : List Value)[j]? := by
        intro j hj
        rw [World.var?_cell hg' hvar, ← h2, List.getElem?_take, if_pos hj, List.getElem?_drop, Array.getElem?_toList]
      exact ⟨h3 0 (by omega), h3 1 (by omega), h3 2 (by omega), h3 3 (by omega), h3 4 (by omega)⟩
    intro k h1 h6
    have hk : k = 1 ∨ k = 2 ∨ k = 3 ∨ k = 4 ∨ k = 5 ∨ k = 6 := by omega
    rcases hk with rfl | rfl | rfl | rfl | rfl | rfl
    · exact key 1 y1 _ _ _ _ _ (by omega) rfl x1
    · exact key 2 y2 _ _ _ _ _ (by omega) rfl x2
    · exact key 3 y3 _ _ _ _ _ (by omega) rfl x3
    · exact key 4 y4 _ _ _ _ _ (by omega) rfl x4
    · exact key 5 y5 _ _ _ _ _ (by omega) rfl x5
    · exact key 6 y6 _ _ _ _ _ (by omega) rfl x6

/-- What lay there is as it was: what is asked behind the call. -/
theorem post_kept {H : Type} {enc : TypeId × Value → H} {P : Program} {f : Func} {s : ChangeSpec} {apart fresh handsOn again : Bool} {W W' : World} {args : Array Value} {v : Value} {ds gs : List (DataW H)} {ps : List MemPlace}
    (hW : DataW.Whole enc P f.params.toList s.vars apart W args.toList ds gs ps)
    (hres : ∀ (b : Nat) (sp : Nat → Bool) (hd : Bool), DataW.TrodAll enc P W' b sp hd f.resultTypes.toList (v.resultList f.resultTypes.size) (s.fn H (ds ++ gs)).results [])
    (hargs : ∀ sp : Nat → Bool, (∀ x ∈ ps, sp x.block = true) → DataW.TrodAll enc P W' 0 sp true f.params.toList args.toList (s.fn H (ds ++ gs)).args ps)
    (hvars : ∀ sp : Nat → Bool, DataW.TrodVars enc P W' sp s.vars (s.fn H (ds ++ gs)).vars [])
    (hb : Ext W W')
    (hok : ∀ (j : Nat) (t : TypeId) (r : Value), f.resultTypes[j]? = some t → (v.resultList f.resultTypes.size)[j]? = some r → Value.okWide P W' .any 0 t r) :
    s.post enc P f apart fresh handsOn again W args v W' := by
  have hlt := hW.lt
  have hold : ∀ x ∈ ps, decide (x.block < W.heap.size) = true := fun x hx => by simpa using hlt x hx
  have hall : ∀ x ∈ ps, (fun _ : Nat => true) x.block = true := fun _ _ => rfl
  have hn : W.noneFrozen ps ∧ (apart = true → ps.Nodup) := by
    obtain ⟨_, _, _, _, rfl, h1, h2⟩ := hW
    exact ⟨h1, h2⟩
  refine ⟨ds, gs, ps, [], ps, [], hW, hres _ _ _, hargs _ hold, hvars _, Below.frame hb _, fun _ => ?_⟩
  refine ⟨hok, _, _, ([] ++ ps) ++ [], ⟨[] ++ ps, [], trodAll_append (hargs (fun _ => true) hall) (hres _ _ _), hvars _, rfl, ?_, ?_⟩, ?_⟩
  · intro b off hp
    have hp' : MemPlace.cell b off ∈ ps := by simpa using hp
    rw [Below.frozen hb (p := ⟨b, off, none⟩) (hlt _ hp')]
    exact hn.1 b off hp'
  · intro ha
    simpa using hn.2 ha
  · intro x hx _
    simpa using hx

end Go.Proofs.YtapolidgocfbjaaDoor
