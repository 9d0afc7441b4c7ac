/-
  Fit, as the program does it. Devices copied, devices alike.
-/
import Derived.Test.YtlmfhopifggeaaaDoorProg
import Derived.Test.YtlmfhopifggeaaaDoorRows
import Derived.BigQuiet
import Derived.Deep.AppendLies
import Derived.Deep.Cut
import Derived.Deep.CutRange
import Derived.Deep.LoopGhost
import Derived.Deep.QuietTactic
import Derived.Deep.RegionHeld3
import Derived.Ground.Names2Prog
import Derived.Ground.SlgnProg
import Derived.Laws.Bits64b
import Derived.Laws.CopyOwn
import Derived.Laws.ResultCell
import Derived.Lib.AppendZeros
import Derived.Lib.BitFns
import Derived.Lib.Hide
import Derived.Lib.ItoaMem
import Derived.Lib.ItoaNum
import Derived.Lib.Strings
import Derived.Lib.TrailingZeros
import Derived.Maps.AppendAt
import Derived.OrdersHeld
import Derived.OrdersIn
import Derived.OwnWalk
import Derived.ProofKit
import Derived.RangeFuncCalls
import Derived.RangeFuncFrom
import Derived.RegionTactic
import Derived.Shelf.Slices.Clone
import Derived.Shelf.SlicesE.Clone
import Derived.Shelf.Spec.TrailingZeros
import Derived.WalkKit
import Derived.WalkLawsBesides
import Derived.WalkSpells
import Derived.Test.YtlmfhopifggeaaaDoorS00Mem
import Derived.Test.YtlmfhopifggeaaaDoorShelf
import Derived.Test.YtlmfhopifggeaaaDoorS02ZBq
import Derived.Test.YtlmfhopifggeaaaDoorS03ZKq
import Derived.Test.YtlmfhopifggeaaaDoorS05Wf
import Derived.Test.YtlmfhopifggeaaaDoorS06Xfq
import Derived.Test.YtlmfhopifggeaaaDoorS07Cn
import Derived.Test.YtlmfhopifggeaaaDoorS08Cj
import Derived.Test.YtlmfhopifggeaaaDoorS09Mb
import Derived.Test.YtlmfhopifggeaaaDoorS10Mf
import Derived.Test.YtlmfhopifggeaaaDoorS11Mh
import Derived.Test.YtlmfhopifggeaaaDoorS12Mm
import Derived.Test.YtlmfhopifggeaaaDoorS13Ms
namespace Go.Proofs.YtlmfhopifggeaaaDoor
open Go.RowKit

set_option maxRecDepth 100000 in
set_option maxHeartbeats 16000000 in
theorem Fit_any (c : Gci) (ao : Option Addr) (n cp : Nat) (N : Int) (ls : List Lnk) (bo : Option Addr) (m cq : Nat) (w : World) (h : OpsAt w ao n c.ops) (hn : n ≤ cp) (hcp : cp ≤ 9223372036854775807) (hd : LnkAt w bo m ls) (hm : m ≤ 9223372036854775806) (hS : Shp w) (hT : BruM w) :
    Calls Tryd.prog 13 #[.agg #[.int .i64 c.qubits, .int .i64 c.bits, .slice ao n cp], .agg #[.int .i64 N, .slice bo m cq]] w fun e w' => FitP c N ls w e w' := by
  obtain ⟨qb, bi, ops⟩ := c
  simp only at h ⊢
  obtain ⟨f, hf⟩ : ∃ f, chk ⟨qb, bi, ops⟩ = f := ⟨_, rfl⟩
  obtain ⟨f0, f1⟩ := f
  have hzero : f0 = 0 → (1 ≤ qb ∧ qb ≤ 12) ∧ ops.length ≤ 4096 ∧ (∀ g ∈ ops, DoFit g qb.toNat) := fun h0 => by
    have hc : (chk ⟨qb, bi, ops⟩).1 = 0 := by rw [hf]; exact h0
    obtain ⟨_, h1, h2, h3, h4, h5, h6⟩ := chk_zero hc
    exact ⟨⟨h1, h2⟩, h5, fun g hg => doFit_of h1 h2 h3 h4 (h6 g hg)⟩
  obtain ⟨d, hdv⟩ : ∃ d, devF N ls = d := ⟨_, rfl⟩
  obtain ⟨d0, d1⟩ := d
  have hdz : d0 = 0 → DevOk N ls := fun h0 => (dev_ok (N := N) (ls := ls) (by rw [hdv]; exact h0)).1
  have hRz : d0 = 0 → lnksR N ls = webOf ls := fun h0 => by unfold lnksR; rw [hdv, if_pos h0]
  have hn0 : ops.length = n := h.1
  obtain ⟨s, hs⟩ : ∃ s, bsF ops n 0 = s := ⟨_, rfl⟩
  obtain ⟨s0, s1⟩ := s
  have hwr : s0 = 0 → ∀ g ∈ ops, isWr g = false := fun h0 => bs_wr (by rw [hn0, hs]; exact h0)
  obtain ⟨S, hSS⟩ : ∃ S, rckN N ops = S := ⟨_, rfl⟩
  have hF : fitF ⟨qb, bi, ops⟩ N ls = if f0 ≠ 0 then (f0, f1) else if d0 ≠ 0 then (d0, d1) else if N < qb then (36, 0) else if s0 ≠ 0 then (s0, s1) else if 4096 < S then (21, 0) else (0, 0) := by
    unfold fitF
    rw [hf, hdv]
    simp only
    rw [hn0, hs, hSS]
  have hRl := lnksR_len N ls
  have hRu := lnksR_u16 N ls
  obtain ⟨H, hH⟩ : ∃ H, w.heap.size = H := ⟨_, rfl⟩
  obtain ⟨W0, hW0⟩ : ∃ W0, (((w.alloc (.cells #[.int .i64 qb, .int .i64 bi, .slice ao n cp] 34)).alloc (.cells #[.int .i64 N, .slice bo m cq] 24)).alloc (.cells #[.int .i64 0, .int .i64 0, .slice none 0 0, .slice none 0 0, .slice none 0 0] 38)).alloc (.cells #[.int .i64 0, .int .i64 0] 27) = W0 := ⟨_, rfl⟩
  have E0 : Ext w W0 := by rw [← hW0]; exact (((ext_al w _).trans (ext_al _ _)).trans (ext_al _ _)).trans (ext_al _ _)
  have bC : CiB W0 H qb bi ao n cp := by rw [← hW0, ← hH]; exact ((CiB.ext ⟨heap_alloc_new w _⟩ (ext_al _ _)).ext (ext_al _ _)).ext (ext_al _ _)
  have bD : DvB W0 (H + 1) N bo m cq := by
    have h1 := heap_alloc_new (w.alloc (.cells #[.int .i64 qb, .int .i64 bi, .slice ao n cp] 34)) (.cells #[.int .i64 N, .slice bo m cq] 24)
    have h2 := (ext_al ((w.alloc (.cells #[.int .i64 qb, .int .i64 bi, .slice ao n cp] 34)).alloc (.cells #[.int .i64 N, .slice bo m cq] 24)) (.cells #[.int .i64 0, .int .i64 0, .slice none 0 0, .slice none 0 0, .slice none 0 0] 38)).trans (ext_al _ (.cells #[.int .i64 0, .int .i64 0] 27))
    have h3 := (h2.block _ (Array.getElem?_eq_some_iff.1 h1).1).trans h1
    rw [hW0] at h3
    exact ⟨by simpa [hH] using h3⟩
  have bR : RtB W0 (H + 2) := by
    have h1 := heap_alloc_new ((w.alloc (.cells #[.int .i64 qb, .int .i64 bi, .slice ao n cp] 34)).alloc (.cells #[.int .i64 N, .slice bo m cq] 24)) (.cells #[.int .i64 0, .int .i64 0, .slice none 0 0, .slice none 0 0, .slice none 0 0] 38)
    have h2 := ext_al (((w.alloc (.cells #[.int .i64 qb, .int .i64 bi, .slice ao n cp] 34)).alloc (.cells #[.int .i64 N, .slice bo m cq] 24)).alloc (.cells #[.int .i64 0, .int .i64 0, .slice none 0 0, .slice none 0 0, .slice none 0 0] 38)) (.cells #[.int .i64 0, .int .i64 0] 27)
    have h3 := (h2.block _ (Array.getElem?_eq_some_iff.1 h1).1).trans h1
    rw [hW0] at h3
    exact ⟨by simpa [hH] using h3⟩
  have bF : FtB W0 (H + 3) 0 0 := by
    have h1 := heap_alloc_new (((w.alloc (.cells #[.int .i64 qb, .int .i64 bi, .slice ao n cp] 34)).alloc (.cells #[.int .i64 N, .slice bo m cq] 24)).alloc (.cells #[.int .i64 0, .int .i64 0, .slice none 0 0, .slice none 0 0, .slice none 0 0] 38)) (.cells #[.int .i64 0, .int .i64 0] 27)
    rw [hW0] at h1
    exact ⟨by simpa [hH] using h1⟩
  have HF0 := Lib.hid hF; have Hf := Lib.hid hf; have Hdv := Lib.hid hdv; have Hs := Lib.hid hs; have HSS := Lib.hid hSS; have Hzero := Lib.hid hzero; have Hdz := Lib.hid hdz; have HRz := Lib.hid hRz; have Hn0 := Lib.hid hn0; have Hwr := Lib.hid hwr; have HRl := Lib.hid hRl; have HRu := Lib.hid hRu
  have HE0 := Lib.hid E0; have Hh := Lib.hid h; have Hd := Lib.hid hd; have HC := Lib.hid bC; have HD := Lib.hid bD; have HR := Lib.hid bR; have HFt := Lib.hid bF; have HS := Lib.hid hS; have HT := Lib.hid hT
  have HH := Lib.hid hH; have HW0 := Lib.hid hW0; have HwH2 := Lib.hid (show w.heap.size ≤ H + 2 by omega); have HwH3 := Lib.hid (show w.heap.size ≤ H + 3 by omega)
  have m0 := bC.x0; have m1 := bC.x1; have m2 := bC.x2
  clear h hd hS hT E0 bC bD bR bF hF hf hdv hs hSS hH hW0 hzero hdz hRz hn0 hwr hRl hRu
  go_enter Tryd.func13, Tryd.ntmps13
  go_upto_region 1 with fail
  rw [HW0.out, HH.out, show H + 1 + 1 + 1 = H + 3 from rfl, show H + 1 + 1 = H + 2 from rfl]
  have HK := Lib.hid (Check_any ⟨qb, bi, ops⟩ ao n cp W0 (Hh.out.ext HE0.out) hn hcp (HS.out.ext HE0.out))
  rw [Hf.out] at HK
  go_wp2_with fail
  refine HK.out.mono ?_
  rintro e w1 ⟨rfl, hx1⟩
  obtain ⟨K, hK⟩ : ∃ K, w1.heap.size = K := ⟨_, rfl⟩
  obtain ⟨U, hU⟩ : ∃ U, w1.alloc (.cells #[.int .i64 f0, .int .i64 f1] 27) = U := ⟨_, rfl⟩
  have EU : Ext w1 U := by rw [← hU]; exact ext_al _ _
  have bf : FtB U K f0 f1 := by rw [← hU, ← hK]; exact ⟨heap_alloc_new w1 _⟩
  have HX := Lib.hid (hx1.trans EU)
  have hKs : H + 3 < K := by have := HFt.out.lt; have := hx1.size; omega
  have HUs := Lib.hid (show K < U.heap.size from bf.lt); have HKs := Lib.hid hKs; have HKU := Lib.hid hK; have HU := Lib.hid hU
  have q0 := bf.x0; have q1 := bf.x1
  have HCU := Lib.hid (HC.out.ext HX.out); have HDU := Lib.hid (HD.out.ext HX.out); have HRU := Lib.hid (HR.out.ext HX.out); have HFU := Lib.hid (HFt.out.ext HX.out); have HEU := Lib.hid (HE0.out.trans HX.out)
  have ne1 : H + 2 ≠ H + 3 := by omega
  have ne2 : H + 3 ≠ H + 2 := by omega
  clear m0 m1 m2 hx1 EU bf hK hU HK hKs HW0 HH Hf HC HD HR HFt HX HE0
  by_cases hz : f0 ≠ 0
  · have hcb := nt hz
    have HF := Lib.hid (show fitF ⟨qb, bi, ops⟩ N ls = (f0, f1) by rw [HF0.out, if_pos hz])
    have Hz := Lib.hid hz
    have ne3 : K ≠ H + 2 := by have := HKs.out; omega
    have ne4 : K ≠ H + 3 := by have := HKs.out; omega
    have x0 := HRU.out.x0; have x1 := HRU.out.x1; have x2 := HRU.out.x2; have x3 := HRU.out.x3; have x4 := HRU.out.x4; have g0 := HRU.out.f 0; have g1 := HRU.out.f 1; have g2 := HRU.out.f 2; have g3 := HRU.out.f 3; have g4 := HRU.out.f 4
    have y0 := HFU.out.x0; have y1 := HFU.out.x1; have h0 := HFU.out.f 0; have h1 := HFU.out.f 1
    clear hz
    go_upto_region 3 with fail
    rw [HU.out, HKU.out]
    go_region
    go_wp2_with fail
    exact bodyPost_ret (v := .tuple #[.agg #[.int .i64 0, .int .i64 0, .slice none 0 0, .slice none 0 0, .slice none 0 0], .agg #[.int .i64 (f0), .int .i64 (f1)]]) (by simp [results, Tryd.results13, go_sem, x0, x1, x2, x3, x4, y0, y1]) rfl (FitP.bad (f0) (f1) HF.out Hz.out (Below.drew (put2x (put5x HEU.out HwH2.out _ _ _ _ _) HwH3.out _ _)))
  have hz0 : f0 = 0 := by omega
  have hcb := nf' hz0
  obtain ⟨hqr, hlen, hfit⟩ := Hzero.out hz0
  have HF1 := Lib.hid (show fitF ⟨qb, bi, ops⟩ N ls = if d0 ≠ 0 then (d0, d1) else if N < qb then (36, 0) else if s0 ≠ 0 then (s0, s1) else if 4096 < S then (21, 0) else (0, 0) by rw [HF0.out, if_neg hz])
  have Hqr := Lib.hid hqr; have Hn4 := Lib.hid (show n ≤ 4096 by have := Hn0.out; omega); have Hfit := Lib.hid hfit
  clear hz hz0 hqr hlen hfit Hzero HF0
  go_upto_region 4 with fail
  rw [HU.out, HKU.out]
  clear HU HKU q0 q1 hcb
  have v0 := HDU.out.x0; have v1 := HDU.out.x1
  have HK := Lib.hid (linksOf_any N ls bo m cq U (Hd.out.ext HEU.out) hm)
  obtain ⟨R, hR⟩ : ∃ R, lnksR N ls = R := ⟨_, rfl⟩
  rw [hR] at HK HRz HRl HRu
  rw [Hdv.out] at HK
  simp only at HK
  clear hR
  go_wp2_with fail
  refine HK.out.mono ?_
  rintro e w1 ⟨rfl, hx1⟩
  have hrow : ((w1.alloc (.cells zero12 73)).alloc (.cells #[.int .i64 0, .int .i64 0] 27)).heap[w1.heap.size]? = some (.cells zero12 73 (0, 0)) := by
    have h1 := heap_alloc_new w1 (.cells zero12 73)
    exact ((ext_al _ _).block _ (Array.getElem?_eq_some_iff.1 h1).1).trans h1
  have hinf : (Tryd.prog.info? 73).map (·.size) = some (webC R).size := by rw [webC_size, HRl.out]; exact web_info
  have hold : zero12.size = (webC R).size := by rw [webC_size, HRl.out]; rfl
  have hone := webC_one R
  obtain ⟨V, hV⟩ : ∃ V, ((w1.alloc (.cells zero12 73)).alloc (.cells #[.int .i64 0, .int .i64 0] 27)).setRow w1.heap.size (webC R) = V := ⟨_, rfl⟩
  have EV : Ext w1 V := by rw [← hV]; exact ext_only' ((ext_al _ _).trans (ext_al _ _)) (setRow_only' _ _ _) (Nat.le_refl _)
  have rV : V.heap[w1.heap.size]? = some (.cells (webC R) 73 (0, 0)) := by rw [← hV]; exact setRow_heap _ _ _ _ _ _ hrow
  have bV : FtB V (w1.heap.size + 1) 0 0 := by
    have h1 := heap_alloc_new (w1.alloc (.cells zero12 73)) (.cells #[.int .i64 0, .int .i64 0] 27)
    rw [World.size_alloc] at h1
    rw [← hV]
    exact ⟨((setRow_only' _ _ _).block _ (by omega)).trans h1⟩
  have z0 := bV.x0; have z1 := bV.x1; have k0 := bV.f 0; have k1 := bV.f 1
  obtain ⟨K2, hK2⟩ : ∃ K2, w1.heap.size = K2 := ⟨_, rfl⟩
  obtain ⟨Z, hZ⟩ : ∃ Z, (V.setCell ⟨w1.heap.size + 1, 0, none⟩ (.int .i64 d0)).setCell ⟨w1.heap.size + 1, 1, none⟩ (.int .i64 d1) = Z := ⟨_, rfl⟩
  have hOZ : Only (K2 + 1) V Z := by rw [← hZ, hK2]; exact only2' V (K2 + 1) _ _
  have bZ : FtB Z (K2 + 1) d0 d1 := by rw [← hZ, ← hK2]; exact bV.putV d0 d1
  have rZ : Z.heap[K2]? = some (.cells (webC R) 73 (0, 0)) := (hOZ.block K2 (by omega)).trans (by rw [← hK2]; exact rV)
  have hKK : K < K2 := by have h2 := HFU.out.lt; have h3 := hx1.size; have h4 := HKs.out; have h5 := HUs.out; omega
  have EZ : Ext U Z := ext_only' (hx1.trans EV) hOZ (by have := hx1.size; omega)
  have HCZ := Lib.hid (HCU.out.ext EZ); have HDZ := Lib.hid (HDU.out.ext EZ); have HRZ := Lib.hid (HRU.out.ext EZ); have HFZ := Lib.hid (HFU.out.ext EZ); have HEZ := Lib.hid (HEU.out.trans EZ)
  have HK2 := Lib.hid hK2; have HV := Lib.hid hV; have HZ := Lib.hid hZ; have HbZ := Lib.hid bZ; have HrZ := Lib.hid rZ; have HKK := Lib.hid hKK
  clear HK bV EV hV hZ hK2 rV hOZ bZ rZ EZ hx1 v0 v1 hKK HCU HDU HRU HFU HEU
  go_upto_region 5 with (refine wpList_store_row rfl 73 _ _ rfl w1.heap.size (webC R) rfl rfl 73 _ hrow hinf hold hone ?_; rw [show #[Value.int .u16 0, .int .u16 0, .int .u16 0, .int .u16 0, .int .u16 0, .int .u16 0, .int .u16 0, .int .u16 0, .int .u16 0, .int .u16 0, .int .u16 0, .int .u16 0] = zero12 from rfl, HV.out])
  rw [HZ.out, HK2.out]
  have q0 := HbZ.out.x0; have q1 := HbZ.out.x1
  clear z0 z1 k0 k1 hrow hinf hold hone HV HZ
  by_cases hz : d0 ≠ 0
  · have hcb := nt hz
    have HF := Lib.hid (show fitF ⟨qb, bi, ops⟩ N ls = (d0, d1) by rw [HF1.out, if_pos hz])
    have Hz := Lib.hid hz
    have ne3 : K2 + 1 ≠ H + 2 := by have := HKs.out; have := HKK.out; omega
    have ne4 : K2 + 1 ≠ H + 3 := by have := HKs.out; have := HKK.out; omega
    have x0 := HRZ.out.x0; have x1 := HRZ.out.x1; have x2 := HRZ.out.x2; have x3 := HRZ.out.x3; have x4 := HRZ.out.x4; have g0 := HRZ.out.f 0; have g1 := HRZ.out.f 1; have g2 := HRZ.out.f 2; have g3 := HRZ.out.f 3; have g4 := HRZ.out.f 4
    have y0 := HFZ.out.x0; have y1 := HFZ.out.x1; have h0 := HFZ.out.f 0; have h1 := HFZ.out.f 1
    clear hz
    go_upto_region 6 with fail
    go_region
    go_wp2_with fail
    exact bodyPost_ret (v := .tuple #[.agg #[.int .i64 0, .int .i64 0, .slice none 0 0, .slice none 0 0, .slice none 0 0], .agg #[.int .i64 (d0), .int .i64 (d1)]]) (by simp [results, Tryd.results13, go_sem, x0, x1, x2, x3, x4, y0, y1]) rfl (FitP.bad (d0) (d1) HF.out Hz.out (Below.drew (put2x (put5x HEZ.out HwH2.out _ _ _ _ _) HwH3.out _ _)))
  have hz0 : d0 = 0 := by omega
  have hcb := nf' hz0
  have HF2 := Lib.hid (show fitF ⟨qb, bi, ops⟩ N ls = if N < qb then (36, 0) else if s0 ≠ 0 then (s0, s1) else if 4096 < S then (21, 0) else (0, 0) by rw [HF1.out, if_neg hz])
  have HOk := Lib.hid (Hdz.out hz0); have HRe := Lib.hid (HRz.out hz0)
  have HNr := Lib.hid (show 1 ≤ N ∧ N ≤ 12 from ⟨HOk.out.n1, HOk.out.n12⟩)
  clear hz hz0 HF1 Hdz HRz
  have v0 := HDZ.out.x0; have c0 := HCZ.out.x0; have c2 := HCZ.out.x2
  by_cases hr : N < qb
  · have HF := Lib.hid (show fitF ⟨qb, bi, ops⟩ N ls = (36, 0) by rw [HF2.out, if_pos hr])
    have x0 := HRZ.out.x0; have x1 := HRZ.out.x1; have x2 := HRZ.out.x2; have x3 := HRZ.out.x3; have x4 := HRZ.out.x4; have g0 := HRZ.out.f 0; have g1 := HRZ.out.f 1; have g2 := HRZ.out.f 2; have g3 := HRZ.out.f 3; have g4 := HRZ.out.f 4
    have y0 := HFZ.out.x0; have y1 := HFZ.out.x1; have h0 := HFZ.out.f 0; have h1 := HFZ.out.f 1
    go_wp2_with fail
    exact bodyPost_ret (v := .tuple #[.agg #[.int .i64 0, .int .i64 0, .slice none 0 0, .slice none 0 0, .slice none 0 0], .agg #[.int .i64 (36), .int .i64 (0)]]) (by simp [results, Tryd.results13, go_sem, x0, x1, x2, x3, x4, y0, y1]) rfl (FitP.bad (36) (0) HF.out (by decide) (put2x (put5x HEZ.out HwH2.out _ _ _ _ _) HwH3.out _ _))
  have dr : decide (N < qb) = false := decide_eq_false hr
  have HF3 := Lib.hid (show fitF ⟨qb, bi, ops⟩ N ls = if s0 ≠ 0 then (s0, s1) else if 4096 < S then (21, 0) else (0, 0) by rw [HF2.out, if_neg hr])
  have HqN := Lib.hid (show qb ≤ N by omega)
  have HK := Lib.hid (basic_any ops ao n cp Z (Hh.out.ext HEZ.out) Hn4.out)
  rw [Hs.out] at HK
  clear HF2 hr
  go_wp2_with fail
  refine HK.out.mono ?_
  rintro e w3 ⟨rfl, hx3⟩
  obtain ⟨K3, hK3⟩ : ∃ K3, w3.heap.size = K3 := ⟨_, rfl⟩
  obtain ⟨Y, hY⟩ : ∃ Y, w3.alloc (.cells #[.int .i64 s0, .int .i64 s1] 27) = Y := ⟨_, rfl⟩
  have EY3 : Ext w3 Y := by rw [← hY]; exact ext_al _ _
  have bY : FtB Y K3 s0 s1 := by rw [← hY, ← hK3]; exact ⟨heap_alloc_new w3 _⟩
  have EY := hx3.trans EY3
  have hK23 : K2 < K3 := by have := HbZ.out.lt; have := hx3.size; omega
  have HCY := Lib.hid (HCZ.out.ext EY); have HDY := Lib.hid (HDZ.out.ext EY); have HRY := Lib.hid (HRZ.out.ext EY); have HFY := Lib.hid (HFZ.out.ext EY); have HEY := Lib.hid (HEZ.out.trans EY)
  have HrY := Lib.hid ((EY.block _ (Array.getElem?_eq_some_iff.1 HrZ.out).1).trans HrZ.out)
  have HK3 := Lib.hid hK3; have HY := Lib.hid hY; have HK23 := Lib.hid hK23
  have p0 := bY.x0; have p1 := bY.x1
  clear HK EY EY3 bY hK3 hY hK23 hx3 v0 c0 c2 q0 q1 hcb dr HCZ HDZ HRZ HFZ HEZ HrZ HbZ
  by_cases hz : s0 ≠ 0
  · have hcb := nt hz
    have HF := Lib.hid (show fitF ⟨qb, bi, ops⟩ N ls = (s0, s1) by rw [HF3.out, if_pos hz])
    have Hz := Lib.hid hz
    have ne3 : K3 ≠ H + 2 := by have := HKs.out; have := HKK.out; have := HK23.out; omega
    have ne4 : K3 ≠ H + 3 := by have := HKs.out; have := HKK.out; have := HK23.out; omega
    have x0 := HRY.out.x0; have x1 := HRY.out.x1; have x2 := HRY.out.x2; have x3 := HRY.out.x3; have x4 := HRY.out.x4; have g0 := HRY.out.f 0; have g1 := HRY.out.f 1; have g2 := HRY.out.f 2; have g3 := HRY.out.f 3; have g4 := HRY.out.f 4
    have y0 := HFY.out.x0; have y1 := HFY.out.x1; have h0 := HFY.out.f 0; have h1 := HFY.out.f 1
    clear hz
    go_upto_region 11 with fail
    rw [HY.out, HK3.out]
    go_region
    go_wp2_with fail
    exact bodyPost_ret (v := .tuple #[.agg #[.int .i64 0, .int .i64 0, .slice none 0 0, .slice none 0 0, .slice none 0 0], .agg #[.int .i64 (s0), .int .i64 (s1)]]) (by simp [results, Tryd.results13, go_sem, x0, x1, x2, x3, x4, y0, y1]) rfl (FitP.bad (s0) (s1) HF.out Hz.out (Below.drew (put2x (put5x HEY.out HwH2.out _ _ _ _ _) HwH3.out _ _)))
  have hz0 : s0 = 0 := by omega
  have hcb := nf' hz0
  have HF4 := Lib.hid (show fitF ⟨qb, bi, ops⟩ N ls = if 4096 < S then (21, 0) else (0, 0) by rw [HF3.out, if_neg hz])
  have HWr := Lib.hid (Hwr.out hz0)
  clear hz hz0 HF3 Hwr
  go_upto_region 12 with fail
  rw [HY.out, HK3.out]
  clear HY HK3 p0 p1 hcb
  have v0 := HDY.out.x0; have c2 := HCY.out.x2; have c0 := HCY.out.x0
  have HK := Lib.hid (reckoned_any ops N ao n cp Y (Hh.out.ext HEY.out) Hn4.out HNr.out.1 HNr.out.2)
  rw [HSS.out] at HK
  by_cases hr : 4096 < S
  · have HF := Lib.hid (show fitF ⟨qb, bi, ops⟩ N ls = (21, 0) by rw [HF4.out, if_pos hr])
    go_wp2_with fail
    refine HK.out.mono ?_
    rintro e w4 ⟨rfl, hx4⟩
    have HEz := Lib.hid (HEY.out.trans hx4)
    have x0 := (HRY.out.ext hx4).x0; have x1 := (HRY.out.ext hx4).x1; have x2 := (HRY.out.ext hx4).x2; have x3 := (HRY.out.ext hx4).x3; have x4 := (HRY.out.ext hx4).x4; have g0 := (HRY.out.ext hx4).f 0; have g1 := (HRY.out.ext hx4).f 1; have g2 := (HRY.out.ext hx4).f 2; have g3 := (HRY.out.ext hx4).f 3; have g4 := (HRY.out.ext hx4).f 4
    have y0 := (HFY.out.ext hx4).x0; have y1 := (HFY.out.ext hx4).x1; have h0 := (HFY.out.ext hx4).f 0; have h1 := (HFY.out.ext hx4).f 1
    clear hx4 v0 c2 c0
    go_wp2_with fail
    exact bodyPost_ret (v := .tuple #[.agg #[.int .i64 0, .int .i64 0, .slice none 0 0, .slice none 0 0, .slice none 0 0], .agg #[.int .i64 (21), .int .i64 (0)]]) (by simp [results, Tryd.results13, go_sem, x0, x1, x2, x3, x4, y0, y1]) rfl (FitP.bad (21) (0) HF.out (by decide) (put2x (put5x HEz.out HwH2.out _ _ _ _ _) HwH3.out _ _))
  have dr : decide ((4096 : Int) < S) = false := decide_eq_false hr
  have HF := Lib.hid (show fitF ⟨qb, bi, ops⟩ N ls = (0, 0) by rw [HF4.out, if_neg hr])
  have HSb := Lib.hid (show S ≤ 4096 by omega)
  clear HF4 hr
  go_wp2_with fail
  refine HK.out.mono ?_
  rintro e w4 ⟨rfl, hx4⟩
  have HCv := Lib.hid (HCY.out.ext hx4); have HDv := Lib.hid (HDY.out.ext hx4); have HRv := Lib.hid (HRY.out.ext hx4); have HFv := Lib.hid (HFY.out.ext hx4); have HEv := Lib.hid (HEY.out.trans hx4); have Hrv := Lib.hid ((hx4.block _ (Array.getElem?_eq_some_iff.1 HrY.out).1).trans HrY.out)
  clear hx4 v0 c2 c0 HK HCY HDY HRY HFY HEY HrY
  go_upto_region 14 with fail

  obtain ⟨Qn, rfl⟩ : ∃ Qn : Nat, qb = (Qn : Int) := ⟨qb.toNat, by have := Hqr.out; omega⟩
  have hq1 : 1 ≤ Qn := by have := Hqr.out; omega
  have hq12 : Qn ≤ 12 := by have := Hqr.out; omega
  obtain ⟨r0, r1, r2, r3, r4, r5, r6, r7, r8, r9, r10, r11, rfl⟩ := list12 HRl.out
  have he0 : Ext w4 w4.drew := Below.drew (Ext.refl _)
  have HS9 : ∀ w', Ext w4 w' → w'.heap[K2]? = some (.cells (webC [r0, r1, r2, r3, r4, r5, r6, r7, r8, r9, r10, r11]) 73 (0, 0)) ∧ w'.cell? ⟨H, 0, none⟩ = some (.int .i64 (Qn : Int)) := fun w' hx => ⟨(hx.block _ (Array.getElem?_eq_some_iff.1 Hrv.out).1).trans Hrv.out, (HCv.out.ext hx).x0⟩
  have HS := HS9
  refine wp_region_held (S := fun w' => w'.heap[K2]? = some (.cells (webC [r0, r1, r2, r3, r4, r5, r6, r7, r8, r9, r10, r11]) 73 (0, 0)) ∧ w'.cell? ⟨H, 0, none⟩ = some (.int .i64 (Qn : Int))) (by kernel_rfl) ?_
  generalize hops : (#[_, _, _, _, _, _, _] : Array Oper) = opsR
  have hA0 : IsAlloc Tryd.prog opsR 5 10 84 zero14 := by
    subst hops
    exact ⟨_, rfl, rfl, fun _ => rfl, fun _ _ => by kernel_rfl⟩
  subst hops
  refine (Flo1.start (W0 := w4) (ty := 84) (z := zero14) (l := (fun p => #[false, false, false, false, false, p, false])) (fr := (fun t => ⟨#[.agg #[.int .i64 (Qn : Int), .int .i64 bi, .slice ao n cp], .agg #[.int .i64 N, .slice bo m cq], .pointer (some ⟨H, 0, none⟩), .pointer (some ⟨H + 1, 0, none⟩), .pointer (some ⟨H + 2, 0, none⟩), .pointer (some ⟨H + 3, 0, none⟩), .pointer (some ⟨K, 0, none⟩), .pointer (some ⟨K2, 0, none⟩), .pointer (some ⟨K2 + 1, 0, none⟩), .pointer (some ⟨K3, 0, none⟩), t, undef, undef, undef, .agg #[.int .i64 (Qn : Int), .int .i64 bi, .slice ao n cp], .agg #[.int .i64 f0, .int .i64 f1], .pointer (some ⟨K, 0, none⟩), .int .i64 f0, .bool false, undef, undef, .tuple #[.agg (webC [r0, r1, r2, r3, r4, r5, r6, r7, r8, r9, r10, r11]), .agg #[.int .i64 d0, .int .i64 d1]], .agg #[.int .i64 N, .slice bo m cq], .tuple #[.agg (webC [r0, r1, r2, r3, r4, r5, r6, r7, r8, r9, r10, r11]), .agg #[.int .i64 d0, .int .i64 d1]], .agg (webC [r0, r1, r2, r3, r4, r5, r6, r7, r8, r9, r10, r11]), .agg #[.int .i64 d0, .int .i64 d1], .pointer (some ⟨K2 + 1, 0, none⟩), .int .i64 d0, .bool false, undef, undef, .pointer (some ⟨H, 0, none⟩), .int .i64 (Qn : Int), .pointer (some ⟨H + 1, 0, none⟩), .int .i64 N, .bool false, undef, undef, .pointer (some ⟨H, 2, none⟩), .slice ao n cp, .agg #[.int .i64 s0, .int .i64 s1], .pointer (some ⟨K3, 0, none⟩), .int .i64 s0, .bool false, undef, undef, .pointer (some ⟨H, 2, none⟩), .slice ao n cp, .pointer (some ⟨H + 1, 0, none⟩), .int .i64 N, .int .i64 S, .bool false, undef, undef, undef, undef, undef, undef, undef, undef, undef, undef, undef, undef, undef, undef, undef, undef, undef, undef, undef, undef, undef, undef, undef, undef, undef, undef, undef, undef, undef, undef, undef, undef], []⟩)) (n := 6) ?_)
  refine Flo1.take HS he0 0 (.agg (webC [r0, r1, r2, r3, r4, r5, r6, r7, r8, r9, r10, r11])) rfl (by kernel_rfl) (fun p => by cases p <;> kernel_rfl) (fun p => by cases p <;> kernel_rfl) (fun _ _ _ h => h) (fun t => Or.inl ⟨by kernel_rfl, ?_⟩) (fun p => #[true, false, false, false, false, p, false]) (fun p => by cases p <;> kernel_rfl) (fun t => ⟨#[.agg #[.int .i64 (Qn : Int), .int .i64 bi, .slice ao n cp], .agg #[.int .i64 N, .slice bo m cq], .pointer (some ⟨H, 0, none⟩), .pointer (some ⟨H + 1, 0, none⟩), .pointer (some ⟨H + 2, 0, none⟩), .pointer (some ⟨H + 3, 0, none⟩), .pointer (some ⟨K, 0, none⟩), .pointer (some ⟨K2, 0, none⟩), .pointer (some ⟨K2 + 1, 0, none⟩), .pointer (some ⟨K3, 0, none⟩), t, undef, undef, undef, .agg #[.int .i64 (Qn : Int), .int .i64 bi, .slice ao n cp], .agg #[.int .i64 f0, .int .i64 f1], .pointer (some ⟨K, 0, none⟩), .int .i64 f0, .bool false, undef, undef, .tuple #[.agg (webC [r0, r1, r2, r3, r4, r5, r6, r7, r8, r9, r10, r11]), .agg #[.int .i64 d0, .int .i64 d1]], .agg #[.int .i64 N, .slice bo m cq], .tuple #[.agg (webC [r0, r1, r2, r3, r4, r5, r6, r7, r8, r9, r10, r11]), .agg #[.int .i64 d0, .int .i64 d1]], .agg (webC [r0, r1, r2, r3, r4, r5, r6, r7, r8, r9, r10, r11]), .agg #[.int .i64 d0, .int .i64 d1], .pointer (some ⟨K2 + 1, 0, none⟩), .int .i64 d0, .bool false, undef, undef, .pointer (some ⟨H, 0, none⟩), .int .i64 (Qn : Int), .pointer (some ⟨H + 1, 0, none⟩), .int .i64 N, .bool false, undef, undef, .pointer (some ⟨H, 2, none⟩), .slice ao n cp, .agg #[.int .i64 s0, .int .i64 s1], .pointer (some ⟨K3, 0, none⟩), .int .i64 s0, .bool false, undef, undef, .pointer (some ⟨H, 2, none⟩), .slice ao n cp, .pointer (some ⟨H + 1, 0, none⟩), .int .i64 N, .int .i64 S, .bool false, undef, undef, .agg (webC [r0, r1, r2, r3, r4, r5, r6, r7, r8, r9, r10, r11]), undef, undef, undef, undef, undef, undef, undef, undef, undef, undef, undef, undef, undef, undef, undef, undef, undef, undef, undef, undef, undef, undef, undef, undef, undef, undef, undef, undef, undef], []⟩) (fun _ => by kernel_rfl) ?_
  · intro w hSw
    exact load_row 73 _ rfl K2 rfl 73 _ (0, 0) _ hSw.1 Tryd.underlying73 rfl web_info
  refine Flo1.take HS he0 1 (.pointer (some ⟨H, 0, none⟩)) rfl (by kernel_rfl) (fun p => by cases p <;> kernel_rfl) (fun p => by cases p <;> kernel_rfl) (fun _ _ _ h => h) (fun t => Or.inl ⟨by kernel_rfl, ?_⟩) (fun p => #[true, true, false, false, false, p, false]) (fun p => by cases p <;> kernel_rfl) (fun t => ⟨#[.agg #[.int .i64 (Qn : Int), .int .i64 bi, .slice ao n cp], .agg #[.int .i64 N, .slice bo m cq], .pointer (some ⟨H, 0, none⟩), .pointer (some ⟨H + 1, 0, none⟩), .pointer (some ⟨H + 2, 0, none⟩), .pointer (some ⟨H + 3, 0, none⟩), .pointer (some ⟨K, 0, none⟩), .pointer (some ⟨K2, 0, none⟩), .pointer (some ⟨K2 + 1, 0, none⟩), .pointer (some ⟨K3, 0, none⟩), t, undef, undef, undef, .agg #[.int .i64 (Qn : Int), .int .i64 bi, .slice ao n cp], .agg #[.int .i64 f0, .int .i64 f1], .pointer (some ⟨K, 0, none⟩), .int .i64 f0, .bool false, undef, undef, .tuple #[.agg (webC [r0, r1, r2, r3, r4, r5, r6, r7, r8, r9, r10, r11]), .agg #[.int .i64 d0, .int .i64 d1]], .agg #[.int .i64 N, .slice bo m cq], .tuple #[.agg (webC [r0, r1, r2, r3, r4, r5, r6, r7, r8, r9, r10, r11]), .agg #[.int .i64 d0, .int .i64 d1]], .agg (webC [r0, r1, r2, r3, r4, r5, r6, r7, r8, r9, r10, r11]), .agg #[.int .i64 d0, .int .i64 d1], .pointer (some ⟨K2 + 1, 0, none⟩), .int .i64 d0, .bool false, undef, undef, .pointer (some ⟨H, 0, none⟩), .int .i64 (Qn : Int), .pointer (some ⟨H + 1, 0, none⟩), .int .i64 N, .bool false, undef, undef, .pointer (some ⟨H, 2, none⟩), .slice ao n cp, .agg #[.int .i64 s0, .int .i64 s1], .pointer (some ⟨K3, 0, none⟩), .int .i64 s0, .bool false, undef, undef, .pointer (some ⟨H, 2, none⟩), .slice ao n cp, .pointer (some ⟨H + 1, 0, none⟩), .int .i64 N, .int .i64 S, .bool false, undef, undef, .agg (webC [r0, r1, r2, r3, r4, r5, r6, r7, r8, r9, r10, r11]), .pointer (some ⟨H, 0, none⟩), undef, undef, undef, undef, undef, undef, undef, undef, undef, undef, undef, undef, undef, undef, undef, undef, undef, undef, undef, undef, undef, undef, undef, undef, undef, undef, undef, undef], []⟩) (fun _ => by kernel_rfl) ?_
  · intro w hSw
    kernel_rfl
  refine Flo1.take HS he0 2 (.int .i64 (Qn : Int)) rfl (by kernel_rfl) (fun p => by cases p <;> kernel_rfl) (fun p => by cases p <;> kernel_rfl) (fun _ _ _ h => h) (fun t => Or.inl ⟨by kernel_rfl, ?_⟩) (fun p => #[true, true, true, false, false, p, false]) (fun p => by cases p <;> kernel_rfl) (fun t => ⟨#[.agg #[.int .i64 (Qn : Int), .int .i64 bi, .slice ao n cp], .agg #[.int .i64 N, .slice bo m cq], .pointer (some ⟨H, 0, none⟩), .pointer (some ⟨H + 1, 0, none⟩), .pointer (some ⟨H + 2, 0, none⟩), .pointer (some ⟨H + 3, 0, none⟩), .pointer (some ⟨K, 0, none⟩), .pointer (some ⟨K2, 0, none⟩), .pointer (some ⟨K2 + 1, 0, none⟩), .pointer (some ⟨K3, 0, none⟩), t, undef, undef, undef, .agg #[.int .i64 (Qn : Int), .int .i64 bi, .slice ao n cp], .agg #[.int .i64 f0, .int .i64 f1], .pointer (some ⟨K, 0, none⟩), .int .i64 f0, .bool false, undef, undef, .tuple #[.agg (webC [r0, r1, r2, r3, r4, r5, r6, r7, r8, r9, r10, r11]), .agg #[.int .i64 d0, .int .i64 d1]], .agg #[.int .i64 N, .slice bo m cq], .tuple #[.agg (webC [r0, r1, r2, r3, r4, r5, r6, r7, r8, r9, r10, r11]), .agg #[.int .i64 d0, .int .i64 d1]], .agg (webC [r0, r1, r2, r3, r4, r5, r6, r7, r8, r9, r10, r11]), .agg #[.int .i64 d0, .int .i64 d1], .pointer (some ⟨K2 + 1, 0, none⟩), .int .i64 d0, .bool false, undef, undef, .pointer (some ⟨H, 0, none⟩), .int .i64 (Qn : Int), .pointer (some ⟨H + 1, 0, none⟩), .int .i64 N, .bool false, undef, undef, .pointer (some ⟨H, 2, none⟩), .slice ao n cp, .agg #[.int .i64 s0, .int .i64 s1], .pointer (some ⟨K3, 0, none⟩), .int .i64 s0, .bool false, undef, undef, .pointer (some ⟨H, 2, none⟩), .slice ao n cp, .pointer (some ⟨H + 1, 0, none⟩), .int .i64 N, .int .i64 S, .bool false, undef, undef, .agg (webC [r0, r1, r2, r3, r4, r5, r6, r7, r8, r9, r10, r11]), .pointer (some ⟨H, 0, none⟩), .int .i64 (Qn : Int), undef, undef, undef, undef, undef, undef, undef, undef, undef, undef, undef, undef, undef, undef, undef, undef, undef, undef, undef, undef, undef, undef, undef, undef, undef, undef, undef], []⟩) (fun _ => by kernel_rfl) ?_
  · intro w hSw
    obtain ⟨h1, h2⟩ := hSw
    go_simp
    try with_reducible rfl
  refine Flo1.call hA0 HS he0 3 rfl (fun p => by cases p <;> kernel_rfl) (by kernel_rfl) (fun _ _ => by kernel_rfl) (fun _ => by kernel_rfl) 35 #[.int .i64 (Qn : Int)] (fun _ _ => by kernel_rfl) (R := fun v w' => ∃ sg, v = .slice (some ⟨sg, 0, none⟩) Qn Qn ∧ w4.heap.size ≤ sg ∧ IrB w' sg (plN Qn)) (fun wx hx => (places_any Qn wx hq1 hq12).mono ?_) (fun p => #[true, true, true, true, false, p, false]) (fun p => by cases p <;> kernel_rfl) (fun vv t => ⟨#[.agg #[.int .i64 (Qn : Int), .int .i64 bi, .slice ao n cp], .agg #[.int .i64 N, .slice bo m cq], .pointer (some ⟨H, 0, none⟩), .pointer (some ⟨H + 1, 0, none⟩), .pointer (some ⟨H + 2, 0, none⟩), .pointer (some ⟨H + 3, 0, none⟩), .pointer (some ⟨K, 0, none⟩), .pointer (some ⟨K2, 0, none⟩), .pointer (some ⟨K2 + 1, 0, none⟩), .pointer (some ⟨K3, 0, none⟩), t, undef, undef, undef, .agg #[.int .i64 (Qn : Int), .int .i64 bi, .slice ao n cp], .agg #[.int .i64 f0, .int .i64 f1], .pointer (some ⟨K, 0, none⟩), .int .i64 f0, .bool false, undef, undef, .tuple #[.agg (webC [r0, r1, r2, r3, r4, r5, r6, r7, r8, r9, r10, r11]), .agg #[.int .i64 d0, .int .i64 d1]], .agg #[.int .i64 N, .slice bo m cq], .tuple #[.agg (webC [r0, r1, r2, r3, r4, r5, r6, r7, r8, r9, r10, r11]), .agg #[.int .i64 d0, .int .i64 d1]], .agg (webC [r0, r1, r2, r3, r4, r5, r6, r7, r8, r9, r10, r11]), .agg #[.int .i64 d0, .int .i64 d1], .pointer (some ⟨K2 + 1, 0, none⟩), .int .i64 d0, .bool false, undef, undef, .pointer (some ⟨H, 0, none⟩), .int .i64 (Qn : Int), .pointer (some ⟨H + 1, 0, none⟩), .int .i64 N, .bool false, undef, undef, .pointer (some ⟨H, 2, none⟩), .slice ao n cp, .agg #[.int .i64 s0, .int .i64 s1], .pointer (some ⟨K3, 0, none⟩), .int .i64 s0, .bool false, undef, undef, .pointer (some ⟨H, 2, none⟩), .slice ao n cp, .pointer (some ⟨H + 1, 0, none⟩), .int .i64 N, .int .i64 S, .bool false, undef, undef, .agg (webC [r0, r1, r2, r3, r4, r5, r6, r7, r8, r9, r10, r11]), .pointer (some ⟨H, 0, none⟩), .int .i64 (Qn : Int), vv, undef, undef, undef, undef, undef, undef, undef, undef, undef, undef, undef, undef, undef, undef, undef, undef, undef, undef, undef, undef, undef, undef, undef, undef, undef, undef], []⟩) (fun _ _ => by kernel_rfl) ?_
  · rintro e w' ⟨sg, rfl, h1, h2, hx'⟩; exact ⟨_, rfl, ⟨sg, rfl, Nat.le_trans (show w4.heap.size ≤ wx.heap.size from hx.size) h1, h2⟩, hx'⟩
  rintro v w1x ⟨sg, rfl, hsg, hI9⟩ hq1
  have he1 := he0.trans hq1
  refine Flo1.take HS he1 4 (.agg (mvC [r0, r1, r2, r3, r4, r5, r6, r7, r8, r9, r10, r11] (.slice (some ⟨sg, 0, none⟩) Qn Qn) (.slice none 0 0))) rfl (by kernel_rfl) (fun p => by cases p <;> kernel_rfl) (fun p => by cases p <;> kernel_rfl) (fun _ _ _ h => h) (fun t => Or.inl ⟨by kernel_rfl, ?_⟩) (fun p => #[true, true, true, true, true, p, false]) (fun p => by cases p <;> kernel_rfl) (fun t => ⟨#[.agg #[.int .i64 (Qn : Int), .int .i64 bi, .slice ao n cp], .agg #[.int .i64 N, .slice bo m cq], .pointer (some ⟨H, 0, none⟩), .pointer (some ⟨H + 1, 0, none⟩), .pointer (some ⟨H + 2, 0, none⟩), .pointer (some ⟨H + 3, 0, none⟩), .pointer (some ⟨K, 0, none⟩), .pointer (some ⟨K2, 0, none⟩), .pointer (some ⟨K2 + 1, 0, none⟩), .pointer (some ⟨K3, 0, none⟩), t, undef, undef, undef, .agg #[.int .i64 (Qn : Int), .int .i64 bi, .slice ao n cp], .agg #[.int .i64 f0, .int .i64 f1], .pointer (some ⟨K, 0, none⟩), .int .i64 f0, .bool false, undef, undef, .tuple #[.agg (webC [r0, r1, r2, r3, r4, r5, r6, r7, r8, r9, r10, r11]), .agg #[.int .i64 d0, .int .i64 d1]], .agg #[.int .i64 N, .slice bo m cq], .tuple #[.agg (webC [r0, r1, r2, r3, r4, r5, r6, r7, r8, r9, r10, r11]), .agg #[.int .i64 d0, .int .i64 d1]], .agg (webC [r0, r1, r2, r3, r4, r5, r6, r7, r8, r9, r10, r11]), .agg #[.int .i64 d0, .int .i64 d1], .pointer (some ⟨K2 + 1, 0, none⟩), .int .i64 d0, .bool false, undef, undef, .pointer (some ⟨H, 0, none⟩), .int .i64 (Qn : Int), .pointer (some ⟨H + 1, 0, none⟩), .int .i64 N, .bool false, undef, undef, .pointer (some ⟨H, 2, none⟩), .slice ao n cp, .agg #[.int .i64 s0, .int .i64 s1], .pointer (some ⟨K3, 0, none⟩), .int .i64 s0, .bool false, undef, undef, .pointer (some ⟨H, 2, none⟩), .slice ao n cp, .pointer (some ⟨H + 1, 0, none⟩), .int .i64 N, .int .i64 S, .bool false, undef, undef, .agg (webC [r0, r1, r2, r3, r4, r5, r6, r7, r8, r9, r10, r11]), .pointer (some ⟨H, 0, none⟩), .int .i64 (Qn : Int), .slice (some ⟨sg, 0, none⟩) Qn Qn, .agg (mvC [r0, r1, r2, r3, r4, r5, r6, r7, r8, r9, r10, r11] (.slice (some ⟨sg, 0, none⟩) Qn Qn) (.slice none 0 0)), undef, undef, undef, undef, undef, undef, undef, undef, undef, undef, undef, undef, undef, undef, undef, undef, undef, undef, undef, undef, undef, undef, undef, undef, undef], []⟩) (fun _ => by kernel_rfl) ?_
  · intro w hSw
    kernel_rfl
  refine Flo1.done hA0 HS he1 (by kernel_rfl) (by kernel_rfl) (fun _ _ => by kernel_rfl) ?_
  intro wy hy Dm hD
  have hEy := he1.trans hy
  have rD := hD.2
  refine anyH_one (i := 6) (by kernel_rfl) rfl (fun Kk hKk => ?_)
  refine stepK_storeRow rfl rfl 84 _ _ rfl Dm (mvC [r0, r1, r2, r3, r4, r5, r6, r7, r8, r9, r10, r11] (.slice (some ⟨sg, 0, none⟩) Qn Qn) (.slice none 0 0)) rfl rfl 84 _ rD mv_info rfl mvC_one ?_
  have hX1 : Ext w4 (wy.setRow Dm (mvC [r0, r1, r2, r3, r4, r5, r6, r7, r8, r9, r10, r11] (.slice (some ⟨sg, 0, none⟩) Qn Qn) (.slice none 0 0))) := ext_only' hEy (setRow_only' _ _ _) hD.1
  refine hKk.out _ _ (HS _ hX1) ?_
  clear hKk Kk
  have rX := setRow_heap wy Dm _ (mvC [r0, r1, r2, r3, r4, r5, r6, r7, r8, r9, r10, r11] (.slice (some ⟨sg, 0, none⟩) Qn Qn) (.slice none 0 0)) _ _ rD
  have hgD : sg ≠ Dm := fun e => by
    have h1 := hI9.ext hy
    unfold IrB at h1
    rw [e, rD] at h1
    injection h1 with h1
    injection h1 with _ h1 _
    exact absurd h1 (by decide)
  have sX : (wy.setRow Dm (mvC [r0, r1, r2, r3, r4, r5, r6, r7, r8, r9, r10, r11] (.slice (some ⟨sg, 0, none⟩) Qn Qn) (.slice none 0 0))).heap[sg]? = some (.cells (iC (plN Qn)).toArray 3 (0, 0)) := (setRow_other wy Dm sg (mvC [r0, r1, r2, r3, r4, r5, r6, r7, r8, r9, r10, r11] (.slice (some ⟨sg, 0, none⟩) Qn Qn) (.slice none 0 0)) hgD).trans (hI9.ext hy)
  have hA1 : MvA w4 (wy.setRow Dm (mvC [r0, r1, r2, r3, r4, r5, r6, r7, r8, r9, r10, r11] (.slice (some ⟨sg, 0, none⟩) Qn Qn) (.slice none 0 0))) (wy.setRow Dm (mvC [r0, r1, r2, r3, r4, r5, r6, r7, r8, r9, r10, r11] (.slice (some ⟨sg, 0, none⟩) Qn Qn) (.slice none 0 0))).heap.size Dm sg Qn [r0, r1, r2, r3, r4, r5, r6, r7, r8, r9, r10, r11] (plN Qn) (.slice none 0 0) [] := ⟨hX1, hD.1, (Array.getElem?_eq_some_iff.1 rX).1, hsg, (Array.getElem?_eq_some_iff.1 sX).1, Nat.le_refl _, rfl, HRu.out, rX, sX, plN_len Qn, OpsN.nil _ _⟩
  obtain ⟨base, hbase⟩ : ∃ base, (wy.setRow Dm (mvC [r0, r1, r2, r3, r4, r5, r6, r7, r8, r9, r10, r11] (.slice (some ⟨sg, 0, none⟩) Qn Qn) (.slice none 0 0))).heap.size = base := ⟨_, rfl⟩
  rw [hbase] at hA1
  have HA1 := Lib.hid hA1; have HsD := Lib.hid (show w4.heap.size ≤ base by rw [← hbase]; exact hX1.size)
  refine wpAnyH_done (by kernel_rfl) ?_ _
  generalize (wy.setRow Dm (mvC [r0, r1, r2, r3, r4, r5, r6, r7, r8, r9, r10, r11] (.slice (some ⟨sg, 0, none⟩) Qn Qn) (.slice none 0 0))) = X1 at *
  clear hA1 sX rX hgD hX1 rD hI9 hD hEy hy hbase hA0 HS HS9 he0

  obtain ⟨M, hM⟩ : ∃ M : Nat, N = (M : Int) := ⟨N.toNat, by have := HNr.out; omega⟩
  subst hM
  have HWok := Lib.hid (show WebOk [r0, r1, r2, r3, r4, r5, r6, r7, r8, r9, r10, r11] M by have := HOk.out.web; rw [← HRe.out, Int.toNat_natCast] at this; exact this)
  have HCn := Lib.hid (show Conn [r0, r1, r2, r3, r4, r5, r6, r7, r8, r9, r10, r11] M by have := HOk.out.conn; rw [← HRe.out, Int.toNat_natCast] at this; exact this)
  have HM12 := Lib.hid (show M ≤ 12 by have := HNr.out; omega); have HQM := Lib.hid (show Qn ≤ M by have := HqN.out; omega); have HQ12 := Lib.hid hq12
  have c2 := (HCv.out.ext HA1.out.ext).x2
  clear hq1 hq12
  go_upto_region 15 with fail
  go_wp2_with fail
  clear c2
  go_loopg [12, 62] n (fun kk _ s62 wr => ∃ (i : Nat) (v' : Value) (out : List Gop) (st : List Int), s62 = .int .i64 (i : Int) ∧ i ≤ n ∧ n - i = kk ∧ MvA w4 wr base Dm sg Qn [r0, r1, r2, r3, r4, r5, r6, r7, r8, r9, r10, r11] st v' out ∧ Ftd [r0, r1, r2, r3, r4, r5, r6, r7, r8, r9, r10, r11] M Qn (ops.take i) out st)
  case atStart => exact ⟨0, _, [], plN Qn, rfl, Nat.zero_le _, rfl, HA1.out, by rw [List.take_zero]; exact Ftd.nil⟩
  case round =>
    clear HA1
    obtain ⟨i, v1, out, st, rfl, hi, hk, hA, hFt⟩ := hrel
    by_cases hin : i = n
    rotate_left 1
    · have hlt : i < n := by omega
      have q1 : (i : Int) < (n : Int) := by omega
      have q0 : (0 : Int) ≤ (i : Int) := by omega
      have wk : IntKind.i64.wrap ((i : Int) + 1) = ((i + 1 : Nat) : Int) := by rw [IntKind.wrap_i64]; have := Hn4.out; omega
      obtain ⟨g, hg⟩ : ∃ g, ops[i]? = some g := ⟨_, List.getElem?_eq_getElem (by have := Hn0.out; omega)⟩
      have hO4 := Hh.out.ext HEv.out
      obtain ⟨b, o, rfl⟩ := hO4.some_of (by omega)
      obtain ⟨a1, n1, c1, a2, n2, c2, e0, e1, e2, e3, e4, e5, hL⟩ := (hO4.at i g hg)
      have e0 := cell_ext e0 hA.ext; have e1 := cell_ext e1 hA.ext; have e2 := cell_ext e2 hA.ext; have e3 := cell_ext e3 hA.ext; have e4 := cell_ext e4 hA.ext; have e5 := cell_ext e5 hA.ext
      have hgm := List.mem_of_getElem? hg
      have hfit := Hfit.out g hgm
      have hwrl := wr_len (HWr.out g hgm)
      have htk := take_gg hg
      have hol := hFt.len HM12.out
      have hol2 : (ops.take i).length ≤ 4096 := by rw [List.length_take]; have := Hn4.out; omega
      have hso := hFt.ok HQM.out
      obtain ⟨kd, k, ctl, qg, bt, cnd⟩ := g
      rw [Int.toNat_natCast] at hfit
      obtain ⟨⟨xq, hxq, hxQ, hctl⟩, hfew⟩ := hfit
      simp only at hxq hctl hfew hwrl e0 e1 e2 e3 e4 e5
      subst hxq
      have hl1 := hL.i1.1; have hl2 := hL.i2.1
      simp only at hl1 hl2
      have bO := opbx_new wr kd k a1 n1 c1 (xq : Int) bt a2 n2 c2
      have p0 := bO.x0; have p1 := bO.x1; have p2 := bO.x2; have p3 := bO.x3; have p4 := bO.x4; have p5 := bO.x5
      have EU := ext_al wr (.cells #[.int .i64 kd, .int .i64 k, .slice a1 n1 c1, .int .i64 (xq : Int), .int .i64 bt, .slice a2 n2 c2] 46)
      have HDo := Lib.hid (do_any w4 (wr.alloc (.cells #[.int .i64 kd, .int .i64 k, .slice a1 n1 c1, .int .i64 (xq : Int), .int .i64 bt, .slice a2 n2 c2] 46)) base Dm sg Qn M [r0, r1, r2, r3, r4, r5, r6, r7, r8, r9, r10, r11] st v1 out kd k a1 n1 c1 xq bt a2 n2 c2 ctl cnd (hA.grow EU) HWok.out HCn.out hso hL (by omega) hctl hxQ (by omega) HQ12.out (bruM_ext HT.out HEv.out) (by omega))
      have Hk := Lib.hid hk; have Hlt := Lib.hid hlt; have HFt9 := Lib.hid hFt; have Htk := Lib.hid htk
      clear hi hk hin hlt hg hO4 hgm hwrl htk hol hol2 hso hctl hfew hl1 hl2 bO EU hA hFt hL hxQ
      go_upto_region 18 with fail
      generalize wr.alloc (.cells #[.int .i64 kd, .int .i64 k, .slice a1 n1 c1, .int .i64 (xq : Int), .int .i64 bt, .slice a2 n2 c2] 46) = U9 at *
      clear e0 e1 e2 e3 e4 e5
      go_wp2_with fail
      refine HDo.out.mono ?_
      rintro e w7 ⟨rfl, v7, st7, mv7, j7, hm7, hj7, hz7, hlk7, hs7, hA7, hX7⟩
      have HA7 := Lib.hid hA7; have HF7 := Lib.hid (Ftd.snoc ⟨kd, k, ctl, (xq : Int), bt, cnd⟩ HFt9.out hm7 hj7 hz7 hlk7 hs7)
      clear hm7 hj7 hz7 hlk7 hs7 hA7 hX7 p0 p1 p2 p3 p4 p5 HDo
      go_wp2_with fail
      go_roundg (n - (i + 1))
      case measure => have := Hk.out; have := Hlt.out; omega
      case rel => exact ⟨i + 1, v7, _, st7, rfl, Hlt.out, rfl, HA7.out, by rw [Htk.out]; exact HF7.out⟩
    have q1 : ¬ (i : Int) < (n : Int) := by omega
    rw [List.take_of_length_le (by have := Hn0.out; omega)] at hFt
    obtain ⟨va, vc, hva⟩ := hA.sl
    obtain ⟨L, hLL⟩ : ∃ L, out.length = L := ⟨_, rfl⟩
    rw [hLL] at hva
    subst hva
    have hE4 := hA.ext
    have bC := HCv.out.ext hE4; have bD := HDv.out.ext hE4
    have d0' := bD.x0; have d1' := bC.x1; have d13 := hA.xv
    obtain ⟨K5, hK5⟩ : ∃ K5, wr.heap.size = K5 := ⟨_, rfl⟩
    obtain ⟨T, hTT⟩ : ∃ T, wr.alloc (.cells #[.int .i64 (M : Int), .int .i64 bi, .slice va L vc] 34) = T := ⟨_, rfl⟩
    have ET : Ext wr T := by rw [← hTT]; exact ext_al _ _
    have bT : CiB T K5 (M : Int) bi va L vc := by rw [← hTT, ← hK5]; exact ⟨heap_alloc_new wr _⟩
    have HAT := Lib.hid (hA.grow ET); have HbT := Lib.hid bT; have HTT := Lib.hid hTT; have HK5 := Lib.hid hK5; have HFt9 := Lib.hid hFt
    have bCT := bC.ext ET
    have HbCT := Lib.hid bCT; have HRT := Lib.hid ((HRv.out.ext hE4).ext ET); have HFT := Lib.hid ((HFv.out.ext hE4).ext ET); have HET := Lib.hid (HEv.out.trans (hE4.trans ET)); have HLL := Lib.hid hLL
    have HH4 := Lib.hid (show H + 3 < w4.heap.size from HFv.out.lt)
    clear hi hk hin hFt bC bD hE4 bT ET hTT hK5 hA bCT hLL
    go_upto_region 21 with fail
    rw [HTT.out, HK5.out]
    clear HTT HK5 d0' d1' d13
    have t0 := HbT.out.x0; have t1 := HbT.out.x1; have t2 := HbT.out.x2; have h0 := HbCT.out.x0; have s12 := HAT.out.xs
    have Ed : Ext T T.drew := Below.drew (Ext.refl _)
    have hq12 := HQ12.out
    have hq1 : 1 ≤ Qn := by have := Hqr.out; omega
    refine wp_region_any (by kernel_rfl) (anyT_plain (k := 8) (S := fun w' => w'.cell? ⟨K5, 0, none⟩ = some (.int .i64 (M : Int)) ∧ w'.cell? ⟨K5, 1, none⟩ = some (.int .i64 bi) ∧ w'.cell? ⟨K5, 2, none⟩ = some (.slice va L vc) ∧ w'.cell? ⟨H, 0, none⟩ = some (.int .i64 (Qn : Int)) ∧ w'.cell? ⟨Dm, 12, none⟩ = some (.slice (some ⟨sg, 0, none⟩) Qn Qn)) (T := fun w' => True) _ _ _ _ ?_)
    show anyT _ _ _ _ _ _ _ 10 #[false, false, false, false, false, false, false, false, false, false] _ _
    have hT : True := trivial
    have hHeld : T.drew.cell? ⟨K5, 0, none⟩ = some (.int .i64 (M : Int)) ∧ T.drew.cell? ⟨K5, 1, none⟩ = some (.int .i64 bi) ∧ T.drew.cell? ⟨K5, 2, none⟩ = some (.slice va L vc) ∧ T.drew.cell? ⟨H, 0, none⟩ = some (.int .i64 (Qn : Int)) ∧ T.drew.cell? ⟨Dm, 12, none⟩ = some (.slice (some ⟨sg, 0, none⟩) Qn Qn) := ⟨cell_ext t0 Ed, cell_ext t1 Ed, cell_ext t2 Ed, cell_ext h0 Ed, cell_ext s12 Ed⟩
    refine anyT_takeT (i := 1) (v := ?_) rfl (by decide) (by kernel_rfl) (by kernel_rfl) (by kernel_rfl) (fun _ _ _ h => h) (Or.inl ⟨by rfl, ?_⟩) hT (fun _ => hHeld) ?_
    rotate_left 1
    · intro w hSw
      go_simp
      try with_reducible rfl
    show anyT _ _ _ _ _ _ _ _ _ (Act.put _ (some 77) _) _
    simp only [Act.put, List.setIfInBounds_toArray, List.set_cons_zero, List.set_cons_succ]
    refine anyT_takeT (i := 4) (v := ?_) rfl (by decide) (by kernel_rfl) (by kernel_rfl) (by kernel_rfl) (fun _ _ _ h => h) (Or.inl ⟨by rfl, ?_⟩) hT (fun _ => hHeld) ?_
    rotate_left 1
    · intro w hSw
      go_simp
      try with_reducible rfl
    show anyT _ _ _ _ _ _ _ _ _ (Act.put _ (some 80) _) _
    simp only [Act.put, List.setIfInBounds_toArray, List.set_cons_zero, List.set_cons_succ]
    refine anyT_takeT (i := 7) (v := ?_) rfl (by decide) (by kernel_rfl) (by kernel_rfl) (by kernel_rfl) (fun _ _ _ h => h) (Or.inl ⟨by rfl, ?_⟩) hT (fun _ => hHeld) ?_
    rotate_left 1
    · intro w hSw
      go_simp
      try with_reducible rfl
    show anyT _ _ _ _ _ _ _ _ _ (Act.put _ (some 83) _) _
    simp only [Act.put, List.setIfInBounds_toArray, List.set_cons_zero, List.set_cons_succ]
    refine anyT_take (i := 0) (v := ?_) rfl (by kernel_rfl) (by kernel_rfl) (by kernel_rfl) (N := 10) (by kernel_rfl) (by kernel_rfl) (by kernel_rfl) (fun _ _ _ h => h) (Or.inl ⟨by rfl, ?_⟩) hHeld hT ?_
    rotate_left 1
    · intro w hSw
      go_simp
      try with_reducible rfl
    show anyT _ _ _ _ _ _ _ _ _ (Act.put _ (some 76) _) _
    simp only [Act.put, List.setIfInBounds_toArray, List.set_cons_zero, List.set_cons_succ]
    refine anyT_take (i := 2) (v := ?_) rfl (by kernel_rfl) (by kernel_rfl) (by kernel_rfl) (N := 10) (by kernel_rfl) (by kernel_rfl) (by kernel_rfl) (fun _ _ _ h => h) (Or.inl ⟨by rfl, ?_⟩) hHeld hT ?_
    rotate_left 1
    · intro w hSw
      go_simp
      try with_reducible rfl
    show anyT _ _ _ _ _ _ _ _ _ (Act.put _ (some 78) _) _
    simp only [Act.put, List.setIfInBounds_toArray, List.set_cons_zero, List.set_cons_succ]
    refine anyT_take (i := 5) (v := ?_) rfl (by kernel_rfl) (by kernel_rfl) (by kernel_rfl) (N := 10) (by kernel_rfl) (by kernel_rfl) (by kernel_rfl) (fun _ _ _ h => h) (Or.inl ⟨by rfl, ?_⟩) hHeld hT ?_
    rotate_left 1
    · intro w hSw
      go_simp
      try with_reducible rfl
    show anyT _ _ _ _ _ _ _ _ _ (Act.put _ (some 81) _) _
    simp only [Act.put, List.setIfInBounds_toArray, List.set_cons_zero, List.set_cons_succ]
    clear hT hHeld
    refine anyT_one (i := 3) (by kernel_rfl) rfl (fun Kk hKk => ?_)
    go_simp
    (go_at_call 35; refine (places_any Qn T.drew hq1 hq12).mono ?_; rintro e w6 ⟨tg, rfl, htg, hI6, hx6⟩)
    have E6 := Ed.trans hx6
    go_wp2_with fail
    refine hKk.out _ _ (trivial) (fun _ => ⟨cell_ext t0 E6, cell_ext t1 E6, cell_ext t2 E6, cell_ext h0 E6, cell_ext s12 E6⟩) ?_
    clear hKk Kk
    simp only [List.setIfInBounds_toArray, List.set_cons_zero, List.set_cons_succ]
    have hT : True := trivial
    have hHeld : w6.cell? ⟨K5, 0, none⟩ = some (.int .i64 (M : Int)) ∧ w6.cell? ⟨K5, 1, none⟩ = some (.int .i64 bi) ∧ w6.cell? ⟨K5, 2, none⟩ = some (.slice va L vc) ∧ w6.cell? ⟨H, 0, none⟩ = some (.int .i64 (Qn : Int)) ∧ w6.cell? ⟨Dm, 12, none⟩ = some (.slice (some ⟨sg, 0, none⟩) Qn Qn) := ⟨cell_ext t0 E6, cell_ext t1 E6, cell_ext t2 E6, cell_ext h0 E6, cell_ext s12 E6⟩
    refine anyT_takeT (i := 6) (v := ?_) rfl (by decide) (by kernel_rfl) (by kernel_rfl) (by kernel_rfl) (fun _ _ _ h => h) (Or.inl ⟨by rfl, ?_⟩) hT (fun _ => hHeld) ?_
    rotate_left 1
    · intro w hSw
      go_simp
      try with_reducible rfl
    show anyT _ _ _ _ _ _ _ _ _ (Act.put _ (some 82) _) _
    simp only [Act.put, List.setIfInBounds_toArray, List.set_cons_zero, List.set_cons_succ]
    clear hT hHeld
    have rR := (HRT.out.ext E6).row
    refine anyT_one (i := 8) (by kernel_rfl) rfl (fun Kk hKk => ?_)
    refine stepK_storeRow rfl rfl 38 _ _ rfl (H + 2) #[.int .i64 (M : Int), .int .i64 bi, .slice va L vc, .slice (some ⟨tg, 0, none⟩) Qn Qn, .slice (some ⟨sg, 0, none⟩) Qn Qn] rfl rfl 38 _ rR rt_info rfl (by kernel_rfl) ?_
    refine hKk.out _ _ (trivial) (fun h => Bool.noConfusion (show true = false from h)) ?_
    clear hKk Kk
    simp only [List.setIfInBounds_toArray, List.set_cons_zero, List.set_cons_succ]
    have rF := ((setRow_only' w6 (H + 2) #[.int .i64 (M : Int), .int .i64 bi, .slice va L vc, .slice (some ⟨tg, 0, none⟩) Qn Qn, .slice (some ⟨sg, 0, none⟩) Qn Qn]).block (H + 3) (by omega)).trans (HFT.out.ext E6).row
    refine anyT_one (i := 9) (by kernel_rfl) rfl (fun Kk hKk => ?_)
    refine stepK_storeRow rfl rfl 27 _ _ rfl (H + 3) #[.int .i64 0, .int .i64 0] rfl rfl 27 _ rF ft_info rfl (by kernel_rfl) ?_
    refine hKk.out _ _ (trivial) (fun h => Bool.noConfusion (show true = false from h)) ?_
    clear hKk Kk
    simp only [List.setIfInBounds_toArray, List.set_cons_zero, List.set_cons_succ]
    refine anyT_done (by kernel_rfl) ?_ _
    have on1 := setRow_only' w6 (H + 2) #[.int .i64 (M : Int), .int .i64 bi, .slice va L vc, .slice (some ⟨tg, 0, none⟩) Qn Qn, .slice (some ⟨sg, 0, none⟩) Qn Qn]
    have on2 := setRow_only' (w6.setRow (H + 2) #[.int .i64 (M : Int), .int .i64 bi, .slice va L vc, .slice (some ⟨tg, 0, none⟩) Qn Qn, .slice (some ⟨sg, 0, none⟩) Qn Qn]) (H + 3) #[.int .i64 0, .int .i64 0]
    have f1' : ((w6.setRow (H + 2) #[.int .i64 (M : Int), .int .i64 bi, .slice va L vc, .slice (some ⟨tg, 0, none⟩) Qn Qn, .slice (some ⟨sg, 0, none⟩) Qn Qn]).setRow (H + 3) #[.int .i64 0, .int .i64 0]).heap[H + 2]? = some (.cells #[.int .i64 (M : Int), .int .i64 bi, .slice va L vc, .slice (some ⟨tg, 0, none⟩) Qn Qn, .slice (some ⟨sg, 0, none⟩) Qn Qn] 38 (0, 0)) := (on2.block (H + 2) (by omega)).trans (setRow_heap _ _ _ _ _ _ rR)
    have f2' : ((w6.setRow (H + 2) #[.int .i64 (M : Int), .int .i64 bi, .slice va L vc, .slice (some ⟨tg, 0, none⟩) Qn Qn, .slice (some ⟨sg, 0, none⟩) Qn Qn]).setRow (H + 3) #[.int .i64 0, .int .i64 0]).heap[H + 3]? = some (.cells #[.int .i64 0, .int .i64 0] 27 (0, 0)) := setRow_heap _ _ _ _ _ _ rF
    have hbl : ∀ k, w4.heap.size ≤ k → ((w6.setRow (H + 2) #[.int .i64 (M : Int), .int .i64 bi, .slice va L vc, .slice (some ⟨tg, 0, none⟩) Qn Qn, .slice (some ⟨sg, 0, none⟩) Qn Qn]).setRow (H + 3) #[.int .i64 0, .int .i64 0]).heap[k]? = w6.heap[k]? := fun k hk => by
      have := HH4.out
      rw [on2.block k (by omega), on1.block k (by omega)]
    have hEf : Ext w ((w6.setRow (H + 2) #[.int .i64 (M : Int), .int .i64 bi, .slice va L vc, .slice (some ⟨tg, 0, none⟩) Qn Qn, .slice (some ⟨sg, 0, none⟩) Qn Qn]).setRow (H + 3) #[.int .i64 0, .int .i64 0]) := ext_only' (ext_only' (HET.out.trans E6) on1 HwH2.out) on2 HwH3.out
    have hAf := HAT.out.grow E6
    have hOf : OpsN ((w6.setRow (H + 2) #[.int .i64 (M : Int), .int .i64 bi, .slice va L vc, .slice (some ⟨tg, 0, none⟩) Qn Qn, .slice (some ⟨sg, 0, none⟩) Qn Qn]).setRow (H + 3) #[.int .i64 0, .int .i64 0]) base (.slice va L vc) out := hAf.ops.young fun k hk _ => hbl k (by have := HsD.out; omega)
    have hEnd : IrB ((w6.setRow (H + 2) #[.int .i64 (M : Int), .int .i64 bi, .slice va L vc, .slice (some ⟨tg, 0, none⟩) Qn Qn, .slice (some ⟨sg, 0, none⟩) Qn Qn]).setRow (H + 3) #[.int .i64 0, .int .i64 0]) sg st := (hbl sg (by have := hAf.hg; exact this)).trans hAf.srow
    have hSt : IrB ((w6.setRow (H + 2) #[.int .i64 (M : Int), .int .i64 bi, .slice va L vc, .slice (some ⟨tg, 0, none⟩) Qn Qn, .slice (some ⟨sg, 0, none⟩) Qn Qn]).setRow (H + 3) #[.int .i64 0, .int .i64 0]) tg (plN Qn) := (hbl tg (by have h1 := HAT.out.ext.size; have h2 : T.heap.size ≤ tg := htg; omega)).trans hI6
    have Hf1 := Lib.hid f1'; have Hf2 := Lib.hid f2'; have HEf := Lib.hid hEf; have HOf := Lib.hid hOf; have HEnd := Lib.hid hEnd; have HSt := Lib.hid hSt; have Hsl := Lib.hid hAf.len; have Hyg := Lib.hid (show w.heap.size ≤ base ∧ w.heap.size ≤ sg ∧ w.heap.size ≤ tg from ⟨by have h1 := HsD.out; have h2 := HH4.out; have h3 := HwH2.out; omega, by have h1 := hAf.hg; have h2 := HH4.out; have h3 := HwH2.out; omega, by have h1 := HAT.out.ext.size; have h2 : T.heap.size ≤ tg := htg; have h3 := HH4.out; have h4 := HwH2.out; omega⟩)
    clear f1' f2' hbl hEf hAf hOf hEnd hSt on1 on2 rR rF t0 t1 t2 h0 s12 E6 hx6 hI6 htg Ed
    generalize ((w6.setRow (H + 2) #[.int .i64 (M : Int), .int .i64 bi, .slice va L vc, .slice (some ⟨tg, 0, none⟩) Qn Qn, .slice (some ⟨sg, 0, none⟩) Qn Qn]).setRow (H + 3) #[.int .i64 0, .int .i64 0]) = WF at *
    go_wp2_with fail
    refine bodyPost_ret (v := .tuple #[.agg #[.int .i64 (M : Int), .int .i64 bi, .slice va L vc, .slice (some ⟨tg, 0, none⟩) Qn Qn, .slice (some ⟨sg, 0, none⟩) Qn Qn], .agg #[.int .i64 0, .int .i64 0]]) ?_ rfl ?_
    · exact results_two rfl _ _ (H + 2) (H + 3) _ _ _ _ _ _ _ _ rfl Hf1.out Tryd.underlying38 rfl rt_info rfl Hf2.out Tryd.underlying27 rfl ft_info
    · obtain ⟨p1, p2, p3, p4⟩ := HOf.out.at
      refine ⟨(M : Int), bi, va, L, vc, some ⟨tg, 0, none⟩, Qn, Qn, some ⟨sg, 0, none⟩, Qn, Qn, out, plN Qn, st, by rw [HF.out], ⟨p4, p2, p3⟩, ⟨HSt.out.ints (plN_len Qn), Nat.le_refl _, by have := HQ12.out; omega⟩, ⟨HEnd.out.ints Hsl.out, Nat.le_refl _, by have := HQ12.out; omega⟩, ⟨fun e => absurd (by rw [HF.out]) e, fun _ => ⟨rfl, rfl, by rw [Int.toNat_natCast], ?_⟩⟩, fun w2 h2 => ⟨(HOf.out.young fun k hk hl => h2 k (Nat.le_trans Hyg.out.1 hk) hl).at.2.2.2, IrB.ints (w := w2) ((h2 tg Hyg.out.2.2 (Array.getElem?_eq_some_iff.1 HSt.out).1).trans HSt.out) (plN_len Qn), IrB.ints (w := w2) ((h2 sg Hyg.out.2.1 (Array.getElem?_eq_some_iff.1 HEnd.out).1).trans HEnd.out) Hsl.out⟩, HEf.out⟩
      have := HFt9.out
      rw [HRe.out] at this
      rw [Int.toNat_natCast, Int.toNat_natCast]
      exact this

end Go.Proofs.YtlmfhopifggeaaaDoor
namespace Go.Proofs.YtlmfhopifggeaaaDoor
open Go.RowKit

/-- Links as cells. -/
def lC (ls : List Lnk) : List Value := (List.range (ls.length * 2)).map fun j => if j % 2 = 0 then Value.int .i64 (ls.getD (j / 2) (0, 0)).1 else Value.int .i64 (ls.getD (j / 2) (0, 0)).2
theorem lC_len (ls : List Lnk) : (lC ls).length = ls.length * 2 := by unfold lC; simp
theorem lC_at (ls : List Lnk) (j : Nat) (h : j < ls.length * 2) : (lC ls)[j]? = some (if j % 2 = 0 then Value.int .i64 (ls.getD (j / 2) (0, 0)).1 else Value.int .i64 (ls.getD (j / 2) (0, 0)).2) := by
  unfold lC
  rw [List.getElem?_map, List.getElem?_range h]; rfl
theorem lC_one (ls : List Lnk) : ∀ u ∈ lC ls, u.oneCell' = true := by
  intro u hu
  unfold lC at hu
  obtain ⟨j, _, rfl⟩ := List.mem_map.1 hu
  split <;> rfl
theorem l2_info : (Tryd.prog.info? 76).map (fun i => (i.zero, i.size, i.bytes)) = some (some (.agg #[.int .i64 0, .int .i64 0]), 2, 16) := by kernel_rfl
theorem lnk_cells {w : World} {b o n : Nat} {ls : List Lnk} (hl : ls.length = n) (hc : ∀ t, t < n → w.cell? ⟨b, o + t * 2, none⟩ = some (.int .i64 (ls.getD t (0, 0)).1) ∧ w.cell? ⟨b, o + t * 2 + 1, none⟩ = some (.int .i64 (ls.getD t (0, 0)).2)) (j : Nat) (u : Value) (hu : (lC ls)[j]? = some u) : w.cell? ((⟨b, o, none⟩ : Addr).add j) = some u := by
  have hadd : (⟨b, o, none⟩ : Addr).add j = ⟨b, o + j, none⟩ := by unfold Addr.add; split <;> simp_all
  have hj : j < ls.length * 2 := by rw [← lC_len]; exact (List.getElem?_eq_some_iff.1 hu).1
  rw [lC_at ls j hj] at hu
  injection hu with hu
  have h2 := hc (j / 2) (by omega)
  rw [hadd, ← hu]
  by_cases e : j % 2 = 0
  · rw [if_pos e, show o + j = o + j / 2 * 2 by omega]; exact h2.1
  · rw [if_neg e, show o + j = o + j / 2 * 2 + 1 by omega]; exact h2.2
theorem lnk_of_own {w : World} {base n : Nat} {v : Value} {ls : List Lnk} (hl : ls.length = n) (h : w.ownsRow base 76 2 v n (lC ls)) : ∃ (a : Option Addr) (c : Nat), v = .slice a n c ∧ n ≤ c ∧ c ≤ maxLen ∧ LnkAt w a n ls := by
  rcases h.2 with ⟨rfl, rfl⟩ | ⟨g, cap, cur, rfl, _, hg, hnc, hcm, _, htk⟩
  · exact ⟨none, 0, rfl, Nat.le_refl _, Nat.zero_le _, ⟨hl, Or.inl rfl⟩⟩
  · refine ⟨some ⟨g, 0, none⟩, cap, rfl, hnc, hcm, ⟨hl, Or.inr ⟨g, 0, rfl, (Array.getElem?_eq_some_iff.1 hg).1, fun t ht => ?_⟩⟩⟩
    have key : ∀ j, j < n * 2 → w.cell? ⟨g, j, none⟩ = (lC ls)[j]? := fun j hj => by
      rw [cell_of_row w g j cur _ (0, 0) hg, ← Array.getElem?_toList, ← htk, List.getElem?_take, if_pos hj]
    have k1 := key (0 + t * 2) (by omega)
    have k2 := key (0 + t * 2 + 1) (by omega)
    rw [lC_at ls _ (by omega), if_pos (by omega), show (0 + t * 2) / 2 = t by omega] at k1
    rw [lC_at ls _ (by omega), if_neg (by omega), show (0 + t * 2 + 1) / 2 = t by omega] at k2
    exact ⟨k1, k2⟩
theorem dv_info : (Tryd.prog.info? 24).map (·.size) = some 2 := by kernel_rfl

set_option maxRecDepth 100000 in
set_option maxHeartbeats 4000000 in
theorem copyDevice_any (N : Int) (ls : List Lnk) (ao : Option Addr) (n cp : Nat) (w : World) (h : LnkAt w ao n ls) (hb : n * 16 ≤ 140737488355328) (hnil : ao = none → cp = 0) :
    Calls Tryd.prog 7 #[.agg #[.int .i64 N, .slice ao n cp]] w fun e w' => ∃ a' c', e = .returned (.agg #[.int .i64 N, .slice a' n c']) ∧ (LnkAt w' a' n ls ∧ n ≤ c' ∧ c' ≤ 9223372036854775807) ∧ Ext w w' := by
  obtain ⟨i0, hi, hz0, hz1, hz2⟩ := info_parts l2_info
  obtain ⟨H, hH⟩ : ∃ H, w.heap.size = H := ⟨_, rfl⟩
  obtain ⟨W0, hW0⟩ : ∃ W0, (w.alloc (.cells #[.int .i64 N, .slice ao n cp] 24)).alloc (.cells #[.int .i64 0, .slice none 0 0] 24) = W0 := ⟨_, rfl⟩
  have E0 : Ext w W0 := by rw [← hW0]; exact (ext_al w _).trans (ext_al _ _)
  have bD : DvB W0 H N ao n cp := by rw [← hW0, ← hH]; exact DvB.ext ⟨heap_alloc_new w _⟩ (ext_al _ _)
  have bR : DvB W0 (H + 1) 0 none 0 0 := ⟨by
    have := heap_alloc_new (w.alloc (.cells #[.int .i64 N, .slice ao n cp] 24)) (.cells #[.int .i64 0, .slice none 0 0] 24)
    rw [← hW0, ← hH]
    simpa using this⟩
  have hs0 : W0.heap.size = H + 2 := by rw [← hW0, World.size_alloc, World.size_alloc, hH]
  have hl := h.1
  have hL := h.ext E0
  have HE0 := Lib.hid E0; have HW0 := Lib.hid hW0; have HH := Lib.hid hH; have HwH := Lib.hid (show w.heap.size ≤ H + 1 by omega)
  have key : ∃ v' w1, (Builtin.append_ #[22, 22] 22 #[.slice none 0 0, .slice ao n cp]).run Tryd.prog W0.drew = .ok v' w1 ∧ w1.ownsRow W0.drew.heap.size 76 2 v' n (lC ls) ∧ Ext W0.drew w1 := by
    have hO0 : W0.drew.ownsRow W0.drew.heap.size 76 2 (.slice none 0 0) 0 [] := ⟨rfl, Or.inl ⟨rfl, rfl⟩⟩
    cases ao with
    | none =>
      have hn0 : n = 0 := by
        rcases hL.2 with h0 | ⟨b, o, e, _⟩
        · exact h0
        · cases e
      subst hn0
      have hc0 := hnil rfl
      subst hc0
      have hls : ls = [] := List.length_eq_zero_iff.1 hl
      subst hls
      exact ⟨_, W0.drew, run_append_owned_none W0.drew W0.drew.heap.size _ _ 76 i0 2 Tryd.underlying22 hi (.slice none 0 0) 0 [] hO0, hO0, Ext.refl _⟩
    | some ad =>
      have hcell : ∀ j u, (lC ls)[j]? = some u → W0.drew.cell? (ad.add j) = some u := fun j u hu => by
        by_cases hn0 : n = 0
        · have := (List.getElem?_eq_some_iff.1 hu).1
          rw [lC_len, hl, hn0] at this
          omega
        · obtain ⟨b, o, e, _, hc⟩ := hL.at (by omega)
          cases e
          exact lnk_cells hl hc j u hu
      obtain ⟨v', w1, e1, e2, e3, _, _⟩ := run_append_own_at (P := Tryd.prog) W0.drew W0.drew.heap.size 22 22 76 i0 _ 2 16 Tryd.underlying22 hi hz0 hz1 hz2 rfl (by decide) (.slice none 0 0) 0 [] hO0 ad n cp (lC ls) (by rw [lC_len, hl]) hcell (lC_one ls) (by unfold maxLen; omega) (by omega) (Nat.le_refl _)
      rw [Nat.zero_add, List.nil_append] at e2
      exact ⟨v', w1, e1, e2, (Below.refl _ _).grown e3 (Nat.le_refl _) (fun k h => by cases h)⟩
  obtain ⟨v1, w1, r1, ho1, E1⟩ := key
  obtain ⟨a1, c1, rfl, hnc, hcm, hLk⟩ := lnk_of_own hl ho1
  have Ed : Ext W0 W0.drew := Below.drew (Ext.refl _)
  have E01 := Ed.trans E1
  have rR := (bR.ext E01).row
  have t0 := bD.x0; have t1 := bD.x1
  have Hr1 := Lib.hid r1; have HLk := Lib.hid hLk; have Hnc := Lib.hid hnc; have Hcm := Lib.hid hcm
  have on1 := setRow_only' w1 (H + 1) #[.int .i64 N, .slice a1 n c1]
  have Hf1 := Lib.hid (setRow_heap w1 (H + 1) _ #[.int .i64 N, .slice a1 n c1] _ _ rR)
  have HEf := Lib.hid (show Ext w (w1.setRow (H + 1) #[.int .i64 N, .slice a1 n c1]) from ext_only' (HE0.out.trans E01) on1 HwH.out)
  have HLf := Lib.hid (show LnkAt (w1.setRow (H + 1) #[.int .i64 N, .slice a1 n c1]) a1 n ls from by
    obtain ⟨a9, c9, e9, _, _, h9⟩ := lnk_of_own hl (own_keep ho1 fun g _ hb9 _ => on1.block g (by have : W0.drew.heap.size = H + 2 := hs0; omega))
    injection e9 with ea _ _
    rw [← ea] at h9
    exact h9)
  have HrR := Lib.hid rR; have HE1 := Lib.hid E1; have HE01 := Lib.hid E01
  clear h hb hnil E0 bD bR hs0 hl hL r1 ho1 hLk hnc hcm on1 hW0 hH E1 E01 rR
  go_enter Tryd.func7, Tryd.ntmps7
  go_upto_region 1 with fail
  rw [HW0.out, HH.out]
  refine wp_region_K 6 (fun w' => w'.cell? ⟨H, 0, none⟩ = some (.int .i64 N) ∧ w'.cell? ⟨H, 1, none⟩ = some (.slice ao n cp)) (by kernel_rfl) ?_
  show anyK _ _ _ _ _ _ 7 #[false, false, false, false, false, false, false] _ _
  have hHeld : W0.drew.cell? ⟨H, 0, none⟩ = some (.int .i64 N) ∧ W0.drew.cell? ⟨H, 1, none⟩ = some (.slice ao n cp) := ⟨cell_ext t0 Ed, cell_ext t1 Ed⟩
  refine anyK_take (i := 0) (v := ?_) rfl (by kernel_rfl) (by kernel_rfl) (by kernel_rfl) (N := 7) (by kernel_rfl) (by kernel_rfl) (by kernel_rfl) (fun _ _ _ h => h) (Or.inl ⟨by rfl, ?_⟩) hHeld ?_
  rotate_left 1
  · intro w hSw
    go_simp
    try with_reducible rfl
  show anyK _ _ _ _ _ _ _ _ (Act.put _ (some 3) _) _
  simp only [Act.put, List.setIfInBounds_toArray, List.set_cons_zero, List.set_cons_succ]
  refine anyK_take (i := 1) (v := ?_) rfl (by kernel_rfl) (by kernel_rfl) (by kernel_rfl) (N := 7) (by kernel_rfl) (by kernel_rfl) (by kernel_rfl) (fun _ _ _ h => h) (Or.inl ⟨by rfl, ?_⟩) hHeld ?_
  rotate_left 1
  · intro w hSw
    go_simp
    try with_reducible rfl
  show anyK _ _ _ _ _ _ _ _ (Act.put _ (some 4) _) _
  simp only [Act.put, List.setIfInBounds_toArray, List.set_cons_zero, List.set_cons_succ]
  refine anyK_take (i := 2) (v := ?_) rfl (by kernel_rfl) (by kernel_rfl) (by kernel_rfl) (N := 7) (by kernel_rfl) (by kernel_rfl) (by kernel_rfl) (fun _ _ _ h => h) (Or.inl ⟨by rfl, ?_⟩) hHeld ?_
  rotate_left 1
  · intro w hSw
    go_simp
    try with_reducible rfl
  show anyK _ _ _ _ _ _ _ _ (Act.put _ (some 5) _) _
  simp only [Act.put, List.setIfInBounds_toArray, List.set_cons_zero, List.set_cons_succ]
  refine anyK_take (i := 3) (v := ?_) rfl (by kernel_rfl) (by kernel_rfl) (by kernel_rfl) (N := 7) (by kernel_rfl) (by kernel_rfl) (by kernel_rfl) (fun _ _ _ h => h) (Or.inl ⟨by rfl, ?_⟩) hHeld ?_
  rotate_left 1
  · intro w hSw
    go_simp
    try with_reducible rfl
  show anyK _ _ _ _ _ _ _ _ (Act.put _ (some 6) _) _
  simp only [Act.put, List.setIfInBounds_toArray, List.set_cons_zero, List.set_cons_succ]
  clear hHeld
  refine anyK_one (i := 4) (by kernel_rfl) rfl (fun Kk hKk => ?_)
  refine stepK_append rfl _ _ 22 rfl (.slice none 0 0) (.slice ao n cp) _ rfl rfl Hr1.out ?_
  refine hKk.out _ _ (fun _ => ⟨cell_ext t0 HE01.out, cell_ext t1 HE01.out⟩) ?_
  clear hKk Kk
  show anyK _ _ _ _ _ _ _ _ (Act.put _ (some 7) _) _
  simp only [Act.put, List.setIfInBounds_toArray, List.set_cons_zero, List.set_cons_succ]
  have hHeld : w1.cell? ⟨H, 0, none⟩ = some (.int .i64 N) ∧ w1.cell? ⟨H, 1, none⟩ = some (.slice ao n cp) := ⟨cell_ext t0 HE01.out, cell_ext t1 HE01.out⟩
  refine anyK_take (i := 5) (v := ?_) rfl (by kernel_rfl) (by kernel_rfl) (by kernel_rfl) (N := 7) (by kernel_rfl) (by kernel_rfl) (by kernel_rfl) (fun _ _ _ h => h) (Or.inl ⟨by rfl, ?_⟩) hHeld ?_
  rotate_left 1
  · intro w hSw
    go_simp
    try with_reducible rfl
  show anyK _ _ _ _ _ _ _ _ (Act.put _ (some 8) _) _
  simp only [Act.put, List.setIfInBounds_toArray, List.set_cons_zero, List.set_cons_succ]
  clear hHeld
  refine anyK_one (i := 6) (by kernel_rfl) rfl (fun Kk hKk => ?_)
  refine stepK_storeRow rfl rfl 24 _ _ rfl (H + 1) #[.int .i64 N, .slice a1 n c1] rfl rfl 24 _ HrR.out dv_info rfl (by kernel_rfl) ?_
  refine hKk.out _ _ (fun h => Bool.noConfusion (show true = false from h)) ?_
  clear hKk Kk
  simp only [List.setIfInBounds_toArray, List.set_cons_zero, List.set_cons_succ]
  refine anyK_done (by kernel_rfl) ?_ _
  clear t0 t1 Ed HE1 HE01 HrR HLk
  generalize w1.setRow (H + 1) #[.int .i64 N, .slice a1 n c1] = WF at *
  go_wp2_with fail
  refine bodyPost_ret (v := .agg #[.int .i64 N, .slice a1 n c1]) ?_ rfl ⟨a1, c1, rfl, ⟨HLf.out, Hnc.out, by have := Hcm.out; unfold maxLen at this; omega⟩, HEf.out⟩
  exact results_cell_row rfl _ _ (H + 1) _ _ _ _ rfl Hf1.out Tryd.underlying24 rfl dv_info

end Go.Proofs.YtlmfhopifggeaaaDoor
