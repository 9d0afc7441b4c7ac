/-
  Circuits on devices: Fit's fault, as the reference finds it. Devices: the lowest bit of a set; the first qubit of a shortest way. A mover in memory: its web, where qubits stand, its operations. What an exchange is. An exchange, as the program does it. A state spread over a device, in plain numbers: exchanges carry the places, gates do what they do. A qubit is brought to another, as the program does it.
-/
import Derived.Test.YtlmfhopifggeaaaDoorProg
import Derived.Test.YtlmfhopifggeaaaDoorRows
import Derived.BigQuiet
import Derived.Deep.AppendLies
import Derived.Deep.Cut
import Derived.Deep.CutRange
import Derived.Deep.LoopGhost
import Derived.Deep.MidRow
import Derived.Deep.QuietTactic
import Derived.Deep.RegionHeld3
import Derived.Defers
import Derived.Ground.Names2Prog
import Derived.Ground.SlgnProg
import Derived.Laws.AppendOwnNone
import Derived.Laws.Bits64b
import Derived.Laws.Concat
import Derived.Laws.CopyOwn
import Derived.Laws.IdiomCopy
import Derived.Laws.IdiomStrings
import Derived.Laws.ResultCell
import Derived.Laws.Rows
import Derived.Lib.AppendStr
import Derived.Lib.AppendZeros
import Derived.Lib.AppendZerosOnto
import Derived.Lib.BitFns
import Derived.Lib.Hide
import Derived.Lib.ItoaMem
import Derived.Lib.ItoaNum
import Derived.Lib.Strings
import Derived.Lib.TrailingZeros
import Derived.Maps.AppendAt
import Derived.OrdersHeld
import Derived.OwnWalk
import Derived.ProofKit
import Derived.Recover
import Derived.RegionTactic
import Derived.Shelf.Slices.Clone
import Derived.Shelf.SlicesE.Clone
import Derived.Shelf.Spec.TrailingZeros
import Derived.WalkKit
import Derived.WalkLawsBesides
import Derived.WalkSpells
import Derived.Test.YtlmfhopifggeaaaDoorS00Mem
import Derived.Test.YtlmfhopifggeaaaDoorShelf
import Derived.Test.YtlmfhopifggeaaaDoorS02ZBq
import Derived.Test.YtlmfhopifggeaaaDoorS03ZKq
import Derived.Test.YtlmfhopifggeaaaDoorS04Udq
import Derived.Test.YtlmfhopifggeaaaDoorS05Wf
import Derived.Test.YtlmfhopifggeaaaDoorS06Xfq
import Derived.Test.YtlmfhopifggeaaaDoorS07Cn
import Derived.Test.YtlmfhopifggeaaaDoorS08Cj
import Derived.Test.YtlmfhopifggeaaaDoorS09Mb
import Derived.Test.YtlmfhopifggeaaaDoorS10Mf
import Derived.Test.YtlmfhopifggeaaaDoorS11Mh
namespace Go.Proofs.YtlmfhopifggeaaaDoor
open Go.RowKit

/-- Fit's fault. -/
def fitF (c : Gci) (N : Int) (ls : List Lnk) : Int × Int :=
  if (chk c).1 ≠ 0 then chk c
  else if (devF N ls).1 ≠ 0 then devF N ls
  else if N < c.qubits then (36, 0)
  else if (bsF c.ops c.ops.length 0).1 ≠ 0 then bsF c.ops c.ops.length 0
  else if 4096 < rckN N c.ops then (21, 0)
  else (0, 0)
theorem chk_len {c : Gci} (h : (chk c).1 = 0) : c.ops.length ≤ 4096 := by
  unfold chk at h
  split at h
  · exact absurd h (by show ¬ (6 : Int) = 0; decide)
  split at h
  · exact absurd h (by show ¬ (7 : Int) = 0; decide)
  split at h
  · exact absurd h (by show ¬ (2 : Int) = 0; decide)
  omega
theorem bsF_pair {ops : List Gop} {n i : Nat} (h : (bsF ops n i).1 = 0) : (bsF ops n i).2 = 0 := by rw [(bsF_zero ops n i h).1]
theorem ct_of_has {g : Gop} (h : isWr g = false) : isCt g = decide (0 < g.ctl.length) := by
  unfold isWr at h
  cases e : decide (0 < g.ctl.length)
  · have : ¬ 0 < g.ctl.length := of_decide_eq_false e
    unfold isCt
    have e2 : (g.ctl.length == 1) = false := by simp; omega
    rw [e2, Bool.and_false]
  · rw [e] at h
    simpa using h

set_option maxRecDepth 100000 in
set_option maxHeartbeats 8000000 in
theorem FitFault_any (c : Gci) (ao : Option Addr) (n cp : Nat) (N : Int) (ls : List Lnk) (bo : Option Addr) (m cq : Nat) (w : World) (h : OpsAt w ao n c.ops) (hn : n ≤ cp) (hcp : cp ≤ 9223372036854775807) (hd : LnkAt w bo m ls) (hm : m ≤ 9223372036854775806) (hmq : m ≤ cq) (hcq : cq ≤ 9223372036854775807) :
    Calls Tryd.prog 14 #[.agg #[.int .i64 c.qubits, .int .i64 c.bits, .slice ao n cp], .agg #[.int .i64 N, .slice bo m cq]] w fun e w' => e = .returned (.tuple #[.int .i64 (if (fitF c N ls).1 = 0 then rckN N c.ops else 0), .agg #[.int .i64 (fitF c N ls).1, .int .i64 (fitF c N ls).2]]) ∧ Ext w w' := by
  obtain ⟨F, hF⟩ : ∃ F, fitF c N ls = F := ⟨_, rfl⟩
  obtain ⟨F0, F1⟩ := F
  obtain ⟨Mo, hMo⟩ : ∃ Mo : Int, (if F0 = 0 then rckN N c.ops else 0) = Mo := ⟨_, rfl⟩
  rw [hF]
  simp only
  rw [hMo]
  obtain ⟨qb, bi, ops⟩ := c
  obtain ⟨f, hf⟩ : ∃ f, chk ⟨qb, bi, ops⟩ = f := ⟨_, rfl⟩
  obtain ⟨f0, f1⟩ := f
  have hln : f0 = 0 → ops.length ≤ 4096 := fun h0 => chk_len (c := ⟨qb, bi, ops⟩) (by rw [hf]; exact h0)
  obtain ⟨d, hdv⟩ : ∃ d, devF N ls = d := ⟨_, rfl⟩
  obtain ⟨d0, d1⟩ := d
  have hdz : d0 = 0 → 1 ≤ N ∧ N ≤ 12 := fun h0 => by
    have := (dev_ok (N := N) (ls := ls) (by rw [hdv]; exact h0)).1
    exact ⟨this.n1, this.n12⟩
  have hn0 := h.1
  simp only at hn0 h hMo
  unfold fitF at hF
  rw [hf, hdv] at hF
  simp only at hF
  rw [hn0] at hF hln
  obtain ⟨s, hs⟩ : ∃ s, bsF ops n 0 = s := ⟨_, rfl⟩
  obtain ⟨s0, s1⟩ := s
  have hwr : s0 = 0 → ∀ g ∈ ops, isWr g = false := fun h0 => bs_wr (by rw [hn0, hs]; exact h0)
  have hsp : s0 = 0 → s1 = 0 := fun h0 => by have := bsF_pair (ops := ops) (n := n) (i := 0) (by rw [hs]; exact h0); rw [hs] at this; exact this
  rw [hs] at hF
  simp only at hF
  have HF := Lib.hid hF; have HMo := Lib.hid hMo; have Hf := Lib.hid hf; have Hdv := Lib.hid hdv; have Hs := Lib.hid hs; have Hln := Lib.hid hln; have Hdz := Lib.hid hdz; have Hwr := Lib.hid hwr; have Hsp := Lib.hid hsp; have Hn0 := Lib.hid hn0
  obtain ⟨H, hH⟩ : ∃ H, w.heap.size = H := ⟨_, rfl⟩
  obtain ⟨W0, hW0⟩ : ∃ W0, ((w.alloc (.cells #[.int .i64 qb, .int .i64 bi, .slice ao n cp] 34)).alloc (.cells #[.int .i64 N, .slice bo m cq] 24)).alloc (.cells #[.int .i64 0, .int .i64 0] 27) = W0 := ⟨_, rfl⟩
  have E0 : Ext w W0 := by rw [← hW0]; exact ((ext_al w _).trans (ext_al _ _)).trans (ext_al _ _)
  have bC : CiB W0 H qb bi ao n cp := by rw [← hW0, ← hH]; exact (CiB.ext ⟨heap_alloc_new w _⟩ (ext_al _ _)).ext (ext_al _ _)
  have bD : DvB W0 (H + 1) N bo m cq := by
    have h1 := heap_alloc_new (w.alloc (.cells #[.int .i64 qb, .int .i64 bi, .slice ao n cp] 34)) (.cells #[.int .i64 N, .slice bo m cq] 24)
    have h2 := ext_al ((w.alloc (.cells #[.int .i64 qb, .int .i64 bi, .slice ao n cp] 34)).alloc (.cells #[.int .i64 N, .slice bo m cq] 24)) (.cells #[.int .i64 0, .int .i64 0] 27)
    have h3 := (h2.block _ (Array.getElem?_eq_some_iff.1 h1).1).trans h1
    rw [hW0] at h3
    exact ⟨by simpa [hH] using h3⟩
  have bF : FtB W0 (H + 2) 0 0 := by
    have h1 := heap_alloc_new ((w.alloc (.cells #[.int .i64 qb, .int .i64 bi, .slice ao n cp] 34)).alloc (.cells #[.int .i64 N, .slice bo m cq] 24)) (.cells #[.int .i64 0, .int .i64 0] 27)
    rw [hW0] at h1
    exact ⟨by simpa [hH] using h1⟩
  have HE0 := Lib.hid E0; have HO := Lib.hid (h.ext E0); have HL := Lib.hid (hd.ext E0); have HC := Lib.hid bC; have HD := Lib.hid bD; have HFt := Lib.hid bF
  have Hh := Lib.hid h; have HH := Lib.hid hH; have HW0 := Lib.hid hW0; have HwH := Lib.hid (show w.heap.size ≤ H + 2 by omega)
  have m0 := bC.x0; have m1 := bC.x1; have m2 := bC.x2
  clear h hd E0 bC bD bF hF hf hdv hs hMo hH hW0 hln hdz hwr hsp hn0
  go_enter Tryd.func14, Tryd.ntmps14
  go_upto_region 1 with fail
  rw [HW0.out, HH.out, show H + 1 + 1 = H + 2 from rfl]
  have HK := Lib.hid (RCheck_any ⟨qb, bi, ops⟩ ao n cp W0 HO.out hn hcp)
  rw [Hf.out] at HK
  go_wp2_with fail
  refine HK.out.mono ?_
  rintro e w1 ⟨rfl, hx1⟩
  obtain ⟨K, hK⟩ : ∃ K, w1.heap.size = K := ⟨_, rfl⟩
  obtain ⟨U, hU⟩ : ∃ U, w1.alloc (.cells #[.int .i64 f0, .int .i64 f1] 27) = U := ⟨_, rfl⟩
  have EU : Ext w1 U := by rw [← hU]; exact ext_al _ _
  have bf : FtB U K f0 f1 := by rw [← hU, ← hK]; exact ⟨heap_alloc_new w1 _⟩
  have HX := Lib.hid (hx1.trans EU)
  have hKs : H + 2 < K := by have := HFt.out.lt; have := hx1.size; omega
  have HKs := Lib.hid hKs; have HKU := Lib.hid hK; have HU := Lib.hid hU; have Hbf := Lib.hid bf
  have q0 := bf.x0; have q1 := bf.x1
  have bz := HFt.out.ext HX.out; have x0 := bz.x0; have x1 := bz.x1; have g0 := bz.f 0; have g1 := bz.f 1
  clear m0 m1 m2 hx1 EU bf hK hU HK bz hKs HW0 HH Hf
  by_cases hc0 : f0 = 0
  rotate_left 1
  · have hcb := nt hc0
    have hF := HF.out
    rw [if_pos hc0] at hF
    have HFF := Lib.hid (show F0 = f0 ∧ F1 = f1 from ⟨(congrArg Prod.fst hF).symm, (congrArg Prod.snd hF).symm⟩)
    have HM0 := Lib.hid (show Mo = 0 by rw [← HMo.out, HFF.out.1, if_neg hc0])
    have HEz := Lib.hid (HE0.out.trans HX.out)
    clear hF HF hc0
    go_upto_region 3 with fail
    rw [HU.out, HKU.out]
    go_region
    go_wp2_with fail
    exact bodyPost_ret (v := .tuple #[.int .i64 0, .agg #[.int .i64 f0, .int .i64 f1]]) (by simp [results, Tryd.results14, go_sem, x0, x1]) rfl ⟨by rw [HFF.out.1, HFF.out.2, HM0.out], Below.drew (put2x HEz.out HwH.out _ _)⟩
  have hcb := nf' hc0
  have hF := HF.out
  rw [if_neg (fun e => e hc0)] at hF
  have HF2 := Lib.hid hF; have Hn4 := Lib.hid (Hln.out hc0)
  have HCU := Lib.hid (HC.out.ext HX.out); have HDU := Lib.hid (HD.out.ext HX.out); have HFU := Lib.hid (HFt.out.ext HX.out); have HOU := Lib.hid (HO.out.ext HX.out); have HLU := Lib.hid (HL.out.ext HX.out); have HEU := Lib.hid (HE0.out.trans HX.out)
  clear hF HF hc0 Hln HC HD HFt HO HL HX HE0 x0 x1 g0 g1
  go_upto_region 4 with fail
  rw [HU.out, HKU.out]
  clear HU HKU q0 q1 hcb
  have v0 := HDU.out.x0; have v1 := HDU.out.x1
  have HK := Lib.hid (CheckDevice_any N ls bo m cq U HLU.out hm hmq hcq)
  rw [Hdv.out] at HK
  go_wp2_with fail
  refine HK.out.mono ?_
  rintro e w2 ⟨rfl, hx2⟩
  have b2 := Hbf.out.ext hx2
  have q0 := b2.x0; have q1 := b2.x1; have r0 := b2.f 0; have r1 := b2.f 1
  obtain ⟨V, hV⟩ : ∃ V, (w2.setCell ⟨K, 0, none⟩ (.int .i64 d0)).setCell ⟨K, 1, none⟩ (.int .i64 d1) = V := ⟨_, rfl⟩
  have hOV : Only K w2 V := by rw [← hV]; exact only2' w2 K _ _
  have bV : FtB V K d0 d1 := by rw [← hV]; exact b2.putV d0 d1
  have HbV := Lib.hid bV; have HCV := Lib.hid (⟨(hOV.block H (by have := HKs.out; omega)).trans (HCU.out.ext hx2).row⟩ : CiB V H qb bi ao n cp); have HDV := Lib.hid ((HDU.out.ext hx2).only hOV (by have := HKs.out; omega)); have HFV := Lib.hid ((HFU.out.ext hx2).only hOV (by have := HKs.out; omega))
  have HWV := Lib.hid (show Ext w V from ext_only' (HEU.out.trans hx2) hOV (by have := HKs.out; have := HwH.out; omega))
  have HV := Lib.hid hV
  have s0' := bV.x0; have s1' := bV.x1
  have x0 := HFV.out.x0; have x1 := HFV.out.x1; have g0 := HFV.out.f 0; have g1 := HFV.out.f 1
  have hne : H + 2 ≠ K := by have := HKs.out; omega
  have hne' : K ≠ H + 2 := by have := HKs.out; omega
  clear HK b2 bV hOV hV hx2 v0 v1
  by_cases hd0 : d0 = 0
  rotate_left 1
  · have hcb := nt hd0
    have hF := HF2.out
    rw [if_pos hd0] at hF
    have HFF := Lib.hid (show F0 = d0 ∧ F1 = d1 from ⟨(congrArg Prod.fst hF).symm, (congrArg Prod.snd hF).symm⟩)
    have HM0 := Lib.hid (show Mo = 0 by rw [← HMo.out, HFF.out.1, if_neg hd0])
    clear hF HF2 hd0
    go_upto_region 6 with fail
    rw [HV.out]
    go_region
    go_wp2_with fail
    exact bodyPost_ret (v := .tuple #[.int .i64 0, .agg #[.int .i64 d0, .int .i64 d1]]) (by simp [results, Tryd.results14, go_sem, x0, x1]) rfl ⟨by rw [HFF.out.1, HFF.out.2, HM0.out], Below.drew (put2x HWV.out HwH.out _ _)⟩
  have hcb := nf' hd0
  obtain ⟨hN1, hN12⟩ := Hdz.out hd0
  have hF := HF2.out
  rw [if_neg (fun e => e hd0)] at hF
  have HF3 := Lib.hid hF; have HN := Lib.hid (show 1 ≤ N ∧ N ≤ 12 from ⟨hN1, hN12⟩)
  clear hF HF2 hd0 Hdz hN1 hN12
  go_upto_region 7 with fail
  rw [HV.out]
  clear HV q0 q1 r0 r1 s0' s1' hcb
  have v0 := HDV.out.x0; have c0 := HCV.out.x0; have c1 := HCV.out.x1; have c2 := HCV.out.x2
  by_cases hr : N < qb
  · have hF := HF3.out
    rw [if_pos hr] at hF
    have HFF := Lib.hid (show F0 = 36 ∧ F1 = 0 from ⟨(congrArg Prod.fst hF).symm, (congrArg Prod.snd hF).symm⟩)
    have HM0 := Lib.hid (show Mo = 0 by rw [← HMo.out, HFF.out.1, if_neg (by decide)])
    clear hF HF3
    go_wp2_with fail
    refine (rfault_any 36 0 _).mono ?_
    rintro e wz ⟨rfl, hxz⟩
    have bz := HFV.out.ext hxz; have x0' := bz.x0; have x1' := bz.x1; have g0' := bz.f 0; have g1' := bz.f 1; have HEy := Lib.hid (HWV.out.trans hxz)
    clear bz hxz x0 x1 g0 g1 v0 c0 c1 c2
    go_wp2_with fail
    exact bodyPost_ret (v := .tuple #[.int .i64 0, .agg #[.int .i64 36, .int .i64 0]]) (by simp [results, Tryd.results14, go_sem, x0', x1']) rfl ⟨by rw [HFF.out.1, HFF.out.2, HM0.out], put2x HEy.out HwH.out _ _⟩
  have hF := HF3.out
  rw [if_neg hr] at hF
  have HF4 := Lib.hid hF
  have dr : decide (N < qb) = false := decide_eq_false hr
  have HK := Lib.hid (NotBasic_any ⟨qb, bi, ops⟩ ao n cp V (Hh.out.ext HWV.out) Hn4.out)
  simp only at HK
  rw [Hs.out] at HK
  clear hF HF3 x0 x1 g0 g1
  go_wp2_with fail
  refine HK.out.mono ?_
  rintro e w3 ⟨rfl, hx3⟩
  have b3 := HbV.out.ext hx3
  have q0 := b3.x0; have q1 := b3.x1; have r0 := b3.f 0; have r1 := b3.f 1
  obtain ⟨Z, hZ⟩ : ∃ Z, (w3.setCell ⟨K, 0, none⟩ (.int .i64 s0)).setCell ⟨K, 1, none⟩ (.int .i64 s1) = Z := ⟨_, rfl⟩
  have hOZ : Only K w3 Z := by rw [← hZ]; exact only2' w3 K _ _
  have bZ : FtB Z K s0 s1 := by rw [← hZ]; exact b3.putV s0 s1
  have HbZ := Lib.hid bZ; have HCZ := Lib.hid (⟨(hOZ.block H (by have := HKs.out; omega)).trans (HCV.out.ext hx3).row⟩ : CiB Z H qb bi ao n cp); have HDZ := Lib.hid ((HDV.out.ext hx3).only hOZ (by have := HKs.out; omega)); have HFZ := Lib.hid ((HFV.out.ext hx3).only hOZ (by have := HKs.out; omega))
  have HWZ := Lib.hid (show Ext w Z from ext_only' (HWV.out.trans hx3) hOZ (by have := HKs.out; have := HwH.out; omega))
  have HZ := Lib.hid hZ
  have s0' := bZ.x0; have s1' := bZ.x1
  clear HK b3 bZ hOZ hZ hx3 v0 c0 c1 c2 hr dr
  by_cases hs0 : s0 = 0
  rotate_left 1
  · have hcb := nt hs0
    have hF := HF4.out
    rw [if_pos hs0] at hF
    have HFF := Lib.hid (show F0 = s0 ∧ F1 = s1 from ⟨(congrArg Prod.fst hF).symm, (congrArg Prod.snd hF).symm⟩)
    have HM0 := Lib.hid (show Mo = 0 by rw [← HMo.out, HFF.out.1, if_neg hs0])
    have x0 := HFZ.out.x0; have x1 := HFZ.out.x1; have g0 := HFZ.out.f 0; have g1 := HFZ.out.f 1
    clear hF HF4 hs0
    go_upto_region 11 with fail
    rw [HZ.out]
    go_region
    go_wp2_with fail
    exact bodyPost_ret (v := .tuple #[.int .i64 0, .agg #[.int .i64 s0, .int .i64 s1]]) (by simp [results, Tryd.results14, go_sem, x0, x1]) rfl ⟨by rw [HFF.out.1, HFF.out.2, HM0.out], Below.drew (put2x HWZ.out HwH.out _ _)⟩
  have hcb := nf' hs0
  have hF := HF4.out
  rw [if_neg (fun e => e hs0)] at hF
  have HF5 := Lib.hid hF; have HW := Lib.hid (Hwr.out hs0); have Hs1 := Lib.hid (Hsp.out hs0); have Hs00 := Lib.hid hs0
  clear hF HF4 hs0 Hwr Hsp
  go_upto_region 12 with fail
  rw [HZ.out]
  clear HZ q0 q1 r0 r1 s0' s1' hcb
  have c2 := HCZ.out.x2; have v0 := HDZ.out.x0
  have HOZ := Lib.hid (Hh.out.ext HWZ.out)
  obtain ⟨D, hD⟩ : ∃ D : Int, max (N - 2) 0 = D := ⟨_, rfl⟩
  have HD9 := Lib.hid hD
  obtain ⟨N2, hN2⟩ : ∃ N2, N - 2 = N2 := ⟨_, rfl⟩
  have wN : IntKind.i64.wrap (N - 2) = N2 := by have := HN.out; rw [IntKind.wrap_i64]; omega
  have w3' : IntKind.i64.wrap (3 * N2) = 3 * N2 := by have := HN.out; rw [IntKind.wrap_i64]; omega
  have HN2 := Lib.hid hN2
  clear hD hN2
  go_wp2_with fail
  go_loopg [7, 8] n (fun kk s7 s8 wr => ∃ i : Nat, s8 = .int .i64 (i : Int) ∧ s7 = .int .i64 ((n : Int) + 3 * D * cntP isCt (ops.take i)) ∧ i ≤ n ∧ n - i = kk ∧ Z = wr)
  case atStart => exact ⟨0, rfl, by simp [cntP], Nat.zero_le _, rfl, rfl⟩
  case round =>
    obtain ⟨i, rfl, rfl, hi, hk, rfl⟩ := hrel
    have Hk := Lib.hid hk
    by_cases hin : i = n
    · have q1 : ¬ (i : Int) < (n : Int) := by omega
      have hst : ops.take i = ops := List.take_of_length_le (by have := Hn0.out; omega)
      rw [hst]
      obtain ⟨S, hS⟩ : ∃ S, (n : Int) + 3 * D * cntP isCt ops = S := ⟨_, rfl⟩
      have hRS : rckN N ops = S := by unfold rckN; rw [HD9.out, Hn0.out, hS]
      rw [hS]
      have hF := HF5.out
      have hMo := HMo.out
      rw [hRS] at hF hMo
      have HFr := Lib.hid HFZ.out
      clear hin hi hk hst hS hRS
      by_cases hb : 4096 < S
      · rw [if_pos hb] at hF
        have HFF := Lib.hid (show F0 = 21 ∧ F1 = 0 from ⟨(congrArg Prod.fst hF).symm, (congrArg Prod.snd hF).symm⟩)
        have HM0 := Lib.hid (show Mo = 0 by rw [← hMo, HFF.out.1, if_neg (by decide)])
        clear hF hMo
        go_wp2_with fail
        refine (rfault_any 21 0 _).mono ?_
        rintro e wz ⟨rfl, hxz⟩
        have bz := HFr.out.ext hxz; have x0' := bz.x0; have x1' := bz.x1; have g0' := bz.f 0; have g1' := bz.f 1; have HEy := Lib.hid (HWZ.out.trans hxz)
        clear bz hxz v0 c2
        go_wp2_with fail
        exact bodyPost_ret (v := .tuple #[.int .i64 0, .agg #[.int .i64 21, .int .i64 0]]) (by simp [results, Tryd.results14, go_sem, x0', x1']) rfl ⟨by rw [HFF.out.1, HFF.out.2, HM0.out], put2x HEy.out HwH.out _ _⟩
      · rw [if_neg hb] at hF
        have HFF := Lib.hid (show F0 = 0 ∧ F1 = 0 from ⟨(congrArg Prod.fst hF).symm, (congrArg Prod.snd hF).symm⟩)
        have HM0 := Lib.hid (show Mo = S by rw [← hMo, HFF.out.1, if_pos rfl])
        have db : decide ((4096 : Int) < S) = false := decide_eq_false hb
        have x0 := HFr.out.x0; have x1 := HFr.out.x1; have g0 := HFr.out.f 0; have g1 := HFr.out.f 1
        have s0' := HbZ.out.x0; have s1' := HbZ.out.x1
        rw [Hs00.out] at s0'
        rw [Hs1.out] at s1'
        clear hF hMo
        go_upto_region 20 with fail
        go_region
        go_wp2_with fail
        exact bodyPost_ret (v := .tuple #[.int .i64 S, .agg #[.int .i64 0, .int .i64 0]]) (by simp [results, Tryd.results14, go_sem, x0, x1]) rfl ⟨by rw [HFF.out.1, HFF.out.2, HM0.out], Below.drew (put2x HWZ.out HwH.out _ _)⟩
    have hlt : i < n := by omega
    have q1 : (i : Int) < (n : Int) := by omega
    have q0 : (0 : Int) ≤ (i : Int) := by omega
    have wk : IntKind.i64.wrap ((i : Int) + 1) = ((i + 1 : Nat) : Int) := by rw [IntKind.wrap_i64]; have := Hn4.out; omega
    obtain ⟨g, hg⟩ : ∃ g, ops[i]? = some g := ⟨_, List.getElem?_eq_getElem (by have := Hn0.out; omega)⟩
    obtain ⟨b, o, rfl⟩ := HOZ.out.some_of (by omega)
    obtain ⟨a1, n1, c1, a2, n2, c2', e0, e1, e2, e3, e4, e5, hL⟩ := (HOZ.out.at i g hg)
    have hst := take_gg hg
    have hn1 := hL.i1.1
    have hct := ct_of_has (HW.out g (List.mem_of_getElem? hg))
    rw [hn1] at hct
    have bd := cntP_bound isCt (ops.take i)
    have bl : (ops.take i).length ≤ 4096 := by rw [List.length_take]; have := Hn4.out; omega
    have hyes : isCt g = true → cntP isCt (ops.take (i + 1)) = cntP isCt (ops.take i) + 1 := fun e => by rw [hst]; exact cntP_yes e
    have hno : isCt g = false → cntP isCt (ops.take (i + 1)) = cntP isCt (ops.take i) := fun e => by rw [hst]; exact cntP_no e
    obtain ⟨C, hC⟩ : ∃ C, cntP isCt (ops.take i) = C := ⟨_, rfl⟩
    rw [hC] at hyes hno bd ⊢
    have hDb : 0 ≤ D ∧ D ≤ 10 := by have := HN.out; have := HD9.out; omega
    have hm : 0 ≤ D * C ∧ D * C ≤ 10 * 4096 := ⟨Int.mul_nonneg hDb.1 bd.1, Int.mul_le_mul hDb.2 (by omega) bd.1 (by decide)⟩
    have em : 3 * D * C = 3 * (D * C) := Int.mul_assoc _ _ _
    have em1 : 3 * D * (C + 1) = 3 * (D * C) + 3 * D := by rw [Int.mul_add, Int.mul_one, em]
    obtain ⟨S, hS⟩ : ∃ S, (n : Int) + 3 * D * C = S := ⟨_, rfl⟩
    have HS1 := Lib.hid (show isCt g = true → (n : Int) + 3 * D * cntP isCt (ops.take (i + 1)) = S + 3 * D from fun e => by rw [hyes e, em1, ← hS, em]; omega)
    have HS0 := Lib.hid (show isCt g = false → (n : Int) + 3 * D * cntP isCt (ops.take (i + 1)) = S from fun e => by rw [hno e, hS])
    have hSb : 0 ≤ S ∧ S ≤ 1000000 := by have := Hn4.out; omega
    rw [hS]
    have wc : IntKind.i64.wrap (S + 3 * N2) = S + 3 * N2 := by have := HN.out; have := HN2.out; rw [IntKind.wrap_i64]; omega
    obtain ⟨kd, k, ctl, q, bt, cnd⟩ := g
    simp only at e0 e1 e2 e3 e4 e5 hn1
    have Hlt := Lib.hid hlt; have Hct := Lib.hid hct
    clear hst bd bl hyes hno hC hlt hg hL hn1 hin hi hk hm em em1 hS hDb hSb hct e0 e1 e3 e4 e5
    by_cases hc : 0 < n1
    · have q2 : (0 : Int) < (n1 : Int) := by omega
      have Hs := Lib.hid (HS1.out (by rw [Hct.out]; exact decide_eq_true hc))
      by_cases hb : 2 < N
      · have e : D = N2 := by have := HD9.out; have := HN2.out; omega
        subst e
        clear hc Hct HS1 HS0
        go_wp2_with fail
        go_roundg (n - (i + 1))
        case measure => have := Hk.out; have := Hlt.out; omega
        case rel => exact ⟨i + 1, rfl, by rw [Hs.out], Hlt.out, rfl, rfl⟩
      · have e : D = 0 := by have := HD9.out; omega
        have db : decide ((2 : Int) < N) = false := decide_eq_false hb
        have Hs2 := Lib.hid (show (n : Int) + 3 * D * cntP isCt (ops.take (i + 1)) = S by rw [Hs.out, e]; omega)
        clear hc Hct HS1 HS0 Hs e
        go_wp2_with fail
        go_roundg (n - (i + 1))
        case measure => have := Hk.out; have := Hlt.out; omega
        case rel => exact ⟨i + 1, rfl, by rw [Hs2.out], Hlt.out, rfl, rfl⟩
    · have q2 : ¬ (0 : Int) < (n1 : Int) := by omega
      have q3 : decide ((0 : Int) < (n1 : Int)) = false := decide_eq_false q2
      have Hs := Lib.hid (HS0.out (by rw [Hct.out]; exact decide_eq_false hc))
      clear hc Hct HS1 HS0
      go_wp2_with fail
      go_roundg (n - (i + 1))
      case measure => have := Hk.out; have := Hlt.out; omega
      case rel => exact ⟨i + 1, rfl, by rw [Hs.out], Hlt.out, rfl, rfl⟩
end Go.Proofs.YtlmfhopifggeaaaDoor
namespace Go.Proofs.YtlmfhopifggeaaaDoor
open Go.RowKit

/-- The table of TrailingZeros16. -/
abbrev BruM (w : World) : Prop := TabAt 1 Lib.deBruijn32tab w
theorem bruM_ext {w w' : World} (h : BruM w) (he : Ext w w') : BruM w' := fun j hj => cell_ext (h j hj) he

set_option maxRecDepth 100000 in
set_option maxHeartbeats 2000000 in
theorem trailing16_any (x : Nat) (h0 : x ≠ 0) (hx : x < 65536) (w : World) (hT : BruM w) : Calls Tryd.prog 83 #[.int .u16 (x : Int)] w fun e w' => e = .returned (.int .i64 ((Lib.ctz 16 x : Nat) : Int)) ∧ w' = w := by
  obtain ⟨h1, h2⟩ := Lib.lowest_bit 16 x h0 hx
  obtain ⟨k, hk⟩ : ∃ k, Lib.ctz 16 x = k := ⟨_, rfl⟩
  rw [hk] at h1 h2 ⊢
  obtain ⟨h3, h4⟩ := Lib.deBruijn32_at k (by omega)
  have hP : 2 ^ k < 65536 := Nat.lt_of_lt_of_le (Nat.pow_lt_pow_right (by decide) h2) (by decide)
  have hc := hT (2 ^ k * 125613361 % 4294967296 / 134217728) h3
  rw [h4] at hc
  have ha := and_u16 hx (show 65536 - x < 65536 by omega)
  rw [show 65536 - x = 2 ^ 16 - x from rfl, h1] at ha
  have wn : IntKind.u16.wrap (-(x : Int)) = ((2 ^ 16 - x : Nat) : Int) := by
    rw [show IntKind.u16.wrap (-(x : Int)) = ((-(x : Int)) % 65536) from rfl]
    have : (2 ^ 16 - x : Nat) = 65536 - x := rfl
    rw [this]
    omega
  obtain ⟨P, hPP⟩ : ∃ P, 2 ^ k = P := ⟨_, rfl⟩
  rw [hPP] at ha hP hc h3
  have wc : IntKind.u32.wrap (P : Int) = (P : Int) := by
    rw [show IntKind.u32.wrap (P : Int) = ((P : Int) % 4294967296) from rfl]; omega
  have wm : IntKind.u32.wrap ((P : Int) * 125613361) = ((P * 125613361 % 4294967296 : Nat) : Int) := by
    rw [show IntKind.u32.wrap ((P : Int) * 125613361) = (((P : Int) * 125613361) % 4294967296) from rfl]; omega
  obtain ⟨Z, hZ⟩ : ∃ Z, P * 125613361 % 4294967296 = Z := ⟨_, rfl⟩
  rw [hZ] at wm hc h3
  obtain ⟨I, hI⟩ : ∃ I, Z / 134217728 = I := ⟨_, rfl⟩
  rw [hI] at hc h3
  have ws : (Z : Int) / 134217728 = (I : Int) := by omega
  have ws2 : (Z : Int) / 2 ^ 27 = (I : Int) := by rw [show (2 : Int) ^ 27 = 134217728 from by decide]; exact ws
  have q0 : (0 : Int) ≤ (I : Int) := by omega
  have q1 : (I : Int) < 32 := by have : I < 32 := h3; omega
  have wk : IntKind.i64.wrap (k : Int) = (k : Int) := by rw [IntKind.wrap_i64]; omega
  have qx : ((x : Int) == 0) = false := by simp; omega
  clear h1 h2 h4 hk hZ hI h0 hx hP hPP hT h3
  go_enter Tryd.func83, Tryd.ntmps83
  go_wp2_with fail
  go_ret
  exact ⟨rfl, rfl⟩
theorem ctz_bit {x : Nat} (h0 : x ≠ 0) (hx : x < 65536) : x.testBit (Lib.ctz 16 x) = true := by
  obtain ⟨h1, h2⟩ := Lib.lowest_bit 16 x h0 hx
  have h3 : (2 ^ Lib.ctz 16 x).testBit (Lib.ctz 16 x) = true := Nat.testBit_two_pow_self
  rw [← h1, Nat.testBit_and] at h3
  exact (Bool.and_eq_true_iff.1 h3).1

set_option maxRecDepth 100000 in
set_option maxHeartbeats 2000000 in
theorem toward_any (W : List Nat) (g f t K M : Nat) (w : World) (h : WebAt w g W) (_hOk : WebOk W M) (hf : f < 12) (ht : t < 12) (hK : bal W (2 ^ t) K &&& W.getD f 0 ≠ 0) (hmin : ∀ k, k < K → bal W (2 ^ t) k &&& W.getD f 0 = 0) (hT : BruM w) :
    Calls Tryd.prog 74 #[.pointer (some ⟨g, 0, none⟩), .int .i64 (f : Int), .int .i64 (t : Int)] w fun e w' => ∃ p : Nat, e = .returned (.int .i64 (p : Int)) ∧ (bal W (2 ^ t) K).testBit p = true ∧ lk W f p = true ∧ Ext w w' := by
  have hpt : 2 ^ t < 65536 := Nat.lt_of_lt_of_le (Nat.pow_lt_pow_right (by decide) ht) (by decide)
  have Hu := Lib.hid (show ∀ i, bal W (2 ^ t) i < 65536 from fun i => by
    induction i with
    | zero => exact hpt
    | succ i ih => exact widK_u16 h.lt ih 12)
  have hsh := shl_u16 ht
  have c0 := h.cell f hf
  have hv := h.lt f
  obtain ⟨V, hV⟩ : ∃ V, W.getD f 0 = V := ⟨_, rfl⟩
  rw [hV] at c0 hv hK hmin
  obtain ⟨PT, hPT⟩ : ∃ P, 2 ^ t = P := ⟨_, rfl⟩
  rw [hPT] at hsh hK hmin Hu ⊢
  have Hw := Lib.hid h; have Hmin := Lib.hid hmin; have HT := Lib.hid hT; have Hv := Lib.hid hv; have HK := Lib.hid hK; have HV := Lib.hid hV
  have q0 : (0 : Int) ≤ (f : Int) := by omega
  have q1 : (f : Int) < 12 := by omega
  have q2 : (0 : Int) ≤ (t : Int) := by omega
  clear h hpt hV hmin hT hv hK hPT _hOk
  go_enter Tryd.func74, Tryd.ntmps74
  go_wp2_with fail
  go_loopg [7] K (fun kk s7 wr => ∃ i : Nat, s7 = .int .u16 (bal W PT i : Nat) ∧ i ≤ K ∧ K - i = kk ∧ Ext w wr)
  case atStart => exact ⟨0, rfl, Nat.zero_le _, rfl, Ext.refl _⟩
  case round =>
    obtain ⟨i, rfl, hi, hk, hE⟩ := hrel
    have HE := Lib.hid hE; have Hk := Lib.hid hk
    have c1 := cell_ext c0 hE
    clear c0
    have ha := and_u16 (Hu.out i) Hv.out
    by_cases hin : i = K
    · subst hin
      have hz : bal W PT i &&& V ≠ 0 := HK.out
      have hb : bal W PT i &&& V < 65536 := Nat.and_lt_two_pow (n := 16) _ Hv.out
      have hbit := ctz_bit hz hb
      rw [Nat.testBit_and] at hbit
      obtain ⟨hb1, hb2⟩ := Bool.and_eq_true_iff.1 hbit
      have HTr := Lib.hid (trailing16_any (bal W PT i &&& V) hz hb wr (bruM_ext HT.out hE))
      obtain ⟨A, hA⟩ : ∃ A, bal W PT i &&& V = A := ⟨_, rfl⟩
      rw [hA] at ha HTr hb1 hb2 hz
      have qa : ((A : Int) == 0) = false := by simp; omega
      have Hb1 := Lib.hid hb1; have Hb2 := Lib.hid (show lk W f (Lib.ctz 16 A) = true by unfold lk; rw [HV.out]; exact hb2)
      obtain ⟨S, hS⟩ : ∃ S, bal W PT i = S := ⟨_, rfl⟩
      rw [hS] at ha ⊢
      clear hz hb hbit hb1 hb2 hA hi hk hE hS
      go_wp2_with fail
      refine HTr.out.mono ?_
      rintro e w2 ⟨rfl, rfl⟩
      go_wp2_with fail
      go_ret
      exact ⟨_, rfl, Hb1.out, Hb2.out, HE.out⟩
    have hlt : i < K := by omega
    have Hlt := Lib.hid hlt
    have hz := Hmin.out i hlt
    rw [hz] at ha
    have HC := Lib.hid (wider_any W g (bal W PT i) wr (Hw.out.ext hE) (Hu.out i))
    have Hnx := Lib.hid (show wid W (bal W PT i) = bal W PT (i + 1) from rfl)
    obtain ⟨S, hS⟩ : ∃ S, bal W PT i = S := ⟨_, rfl⟩
    rw [hS] at ha HC Hnx ⊢
    clear hz hi hk hE hin hlt hS
    go_wp2_with fail
    refine HC.out.mono ?_
    rintro e w2 ⟨rfl, hx⟩
    have HE2 := Lib.hid (HE.out.trans hx)
    clear hx HC c1
    go_wp2_with fail
    go_roundg (K - (i + 1))
    case measure => have := Hk.out; have := Hlt.out; omega
    case rel => exact ⟨i + 1, by rw [Hnx.out], Hlt.out, rfl, HE2.out⟩
end Go.Proofs.YtlmfhopifggeaaaDoor
namespace Go.Proofs.YtlmfhopifggeaaaDoor
open Go.RowKit

theorem opInfo : ∃ i0, Tryd.prog.info? 46 = some i0 ∧ i0.zero = some (.agg #[.int .i64 0, .int .i64 0, .slice none 0 0, .int .i64 0, .int .i64 0, .slice none 0 0]) ∧ i0.size = 6 ∧ i0.bytes = 80 := by
  obtain ⟨i0, hi, hz0, hz1, hz2⟩ := info_parts op_info
  exact ⟨i0, hi, hz0, hz1, hz2⟩
/-- The slots of a mover. -/
def mvC (W : List Nat) (s v : Value) : Array Value := ((W.map fun x : Nat => Value.int .u16 (x : Int)) ++ [s, v]).toArray
section
variable {W : List Nat} {s v : Value}
theorem mvC_web (h : W.length = 12) (q : Nat) (hq : q < 12) : (mvC W s v)[q]? = some (.int .u16 ((W.getD q 0 : Nat) : Int)) := by
  unfold mvC
  rw [List.getElem?_toArray, List.getElem?_append_left (by rw [List.length_map]; omega), List.getElem?_map, List.getD_eq_getElem?_getD, List.getElem?_eq_getElem (by omega)]
  rfl
theorem mvC_s (h : W.length = 12) : (mvC W s v)[12]? = some s := by
  unfold mvC
  rw [List.getElem?_toArray, List.getElem?_append_right (by rw [List.length_map]; omega), List.length_map, h]
  rfl
theorem mvC_v (h : W.length = 12) : (mvC W s v)[13]? = some v := by
  unfold mvC
  rw [List.getElem?_toArray, List.getElem?_append_right (by rw [List.length_map]; omega), List.length_map, h]
  rfl
theorem mvC_set (h : W.length = 12) (v' : Value) : (mvC W s v).setIfInBounds 13 v' = mvC W s v' := by
  unfold mvC
  rw [List.setIfInBounds_toArray, List.set_append_right _ _ (by rw [List.length_map]; omega), List.length_map, h]
  rfl
end
theorem iC_set (st : List Int) (i : Nat) (b : Int) : (iC st).toArray.setIfInBounds i (.int .i64 b) = (iC (st.set i b)).toArray := by
  unfold iC
  rw [List.setIfInBounds_toArray, List.map_set]

/-- A mover at work: its block, where qubits stand, the operations so far. -/
structure MvA (w0 w : World) (base Bm gs Q : Nat) (W : List Nat) (st : List Int) (v : Value) (ops : List Gop) : Prop where
  ext : Ext w0 w
  hB : w0.heap.size ≤ Bm
  hBb : Bm < base
  hg : w0.heap.size ≤ gs
  hgb : gs < base
  hs : base ≤ w.heap.size
  wl : W.length = 12
  wu : ∀ q, W.getD q 0 < 65536
  row : w.heap[Bm]? = some (.cells (mvC W (.slice (some ⟨gs, 0, none⟩) Q Q) v) 84 (0, 0))
  srow : w.heap[gs]? = some (.cells (iC st).toArray 3 (0, 0))
  len : st.length = Q
  ops : OpsN w base v ops
/-- What may have changed: the mover, where qubits stand, the row of operations; the rest is new. -/
structure MvX (Bm gs : Nat) (v v' : Value) (w w' : World) : Prop where
  size : w.heap.size ≤ w'.heap.size
  block : ∀ k, k < w.heap.size → k ≠ Bm → k ≠ gs → v.ownBlock ≠ some k → w'.heap[k]? = w.heap[k]?
  own : ∀ k, v'.ownBlock = some k → v.ownBlock = some k ∨ w.heap.size ≤ k
section
variable {w0 w w' : World} {base Bm gs Q : Nat} {W : List Nat} {st : List Int} {v v' v'' : Value} {ops : List Gop}
theorem MvX.refl (Bm gs : Nat) (v : Value) (w : World) : MvX Bm gs v v w w := ⟨Nat.le_refl _, fun _ _ _ _ _ => rfl, fun _ h => Or.inl h⟩
theorem MvX.trans {a b c : World} (h : MvX Bm gs v v' a b) (k : MvX Bm gs v' v'' b c) : MvX Bm gs v v'' a c :=
  ⟨Nat.le_trans h.size k.size, fun j hj h1 h2 h3 => (k.block j (Nat.lt_of_lt_of_le hj h.size) h1 h2 (fun e => by
    rcases h.own j e with e | e
    · exact h3 e
    · omega)).trans (h.block j hj h1 h2 h3), fun j hj => by
    rcases k.own j hj with e | e
    · exact h.own j e
    · exact Or.inr (Nat.le_trans h.size e)⟩
theorem MvX.of_ext (v : Value) (h : Ext w w') : MvX Bm gs v v w w' := ⟨h.size, fun k hk _ _ _ => h.block k hk, fun _ h => Or.inl h⟩
theorem MvA.ne (h : MvA w0 w base Bm gs Q W st v ops) : Bm ≠ gs := fun e => by
  have h1 := h.row
  rw [e, h.srow] at h1
  injection h1 with h1
  injection h1 with _ h1 _
  exact absurd h1 (by decide)
theorem MvA.lt (h : MvA w0 w base Bm gs Q W st v ops) : Bm < w.heap.size := (Array.getElem?_eq_some_iff.1 h.row).1
theorem MvA.slt (h : MvA w0 w base Bm gs Q W st v ops) : gs < w.heap.size := (Array.getElem?_eq_some_iff.1 h.srow).1
theorem MvA.grow (h : MvA w0 w base Bm gs Q W st v ops) (k : Ext w w') : MvA w0 w' base Bm gs Q W st v ops :=
  ⟨h.ext.trans k, h.hB, h.hBb, h.hg, h.hgb, Nat.le_trans h.hs k.size, h.wl, h.wu, (k.block _ h.lt).trans h.row, (k.block _ h.slt).trans h.srow, h.len, h.ops.ext k⟩
theorem MvA.web (h : MvA w0 w base Bm gs Q W st v ops) : WebAt w Bm W := ⟨h.wl, h.wu, fun q hq => by rw [cell_of_row w Bm q _ _ (0, 0) h.row]; exact mvC_web h.wl q hq⟩
theorem MvA.xs (h : MvA w0 w base Bm gs Q W st v ops) : w.cell? ⟨Bm, 12, none⟩ = some (.slice (some ⟨gs, 0, none⟩) Q Q) := by rw [cell_of_row w Bm 12 _ _ (0, 0) h.row]; exact mvC_s h.wl
theorem MvA.xv (h : MvA w0 w base Bm gs Q W st v ops) : w.cell? ⟨Bm, 13, none⟩ = some v := by rw [cell_of_row w Bm 13 _ _ (0, 0) h.row]; exact mvC_v h.wl
theorem MvA.f (h : MvA w0 w base Bm gs Q W st v ops) (o : Nat) : w.frozen? ⟨Bm, o, none⟩ = false := frozen_of_row w Bm o _ _ h.row
theorem MvA.fs (h : MvA w0 w base Bm gs Q W st v ops) (o : Nat) : w.frozen? ⟨gs, o, none⟩ = false := frozen_of_row w gs o _ _ h.srow
theorem MvA.at (h : MvA w0 w base Bm gs Q W st v ops) (i : Nat) (hi : i < Q) : w.cell? ⟨gs, i, none⟩ = some (.int .i64 (st.getD i 0)) := by
  rw [cell_of_row w gs i _ _ (0, 0) h.srow, List.getElem?_toArray]
  unfold iC
  rw [List.getElem?_map, List.getD_eq_getElem?_getD, List.getElem?_eq_getElem (by rw [h.len]; exact hi)]
  rfl
theorem MvA.sl (h : MvA w0 w base Bm gs Q W st v ops) : ∃ a c, v = .slice a ops.length c := by
  obtain ⟨xs, hx⟩ := h.ops
  rcases hx.own.2 with ⟨rfl, h0⟩ | ⟨g, cap, cur, rfl, _⟩
  · exact ⟨none, 0, by rw [h0]⟩
  · exact ⟨_, _, rfl⟩
/-- Blocks that are young enough stand. -/
theorem Iow.young {a : Option Addr} {n c : Nat} {l : List Int} (h : Iow w base a n c l) (hk : ∀ b, base ≤ b → b < w.heap.size → w'.heap[b]? = w.heap[b]?) : Iow w' base a n c l :=
  own_keep h fun g _ hb hg => hk g hb (Array.getElem?_eq_some_iff.1 hg).1
theorem OpsX.young {xs : List Value} (h : OpsX w base v ops xs) (hk : ∀ b, base ≤ b → b < w.heap.size → w'.heap[b]? = w.heap[b]?) : OpsX w' base v ops xs :=
  ⟨own_keep h.own fun g _ hb hg => hk g hb (Array.getElem?_eq_some_iff.1 hg).1, h.sep, h.row.map fun _ _ _ _ _ _ _ o => ⟨o.i1.young hk, o.i2.young hk, o.ne⟩⟩
/-- A qubit stands elsewhere. -/
theorem MvA.put (h : MvA w0 w base Bm gs Q W st v ops) (i : Nat) (b : Int) : MvA w0 (w.setCell ⟨gs, i, none⟩ (.int .i64 b)) base Bm gs Q W (st.set i b) v ops ∧ MvX Bm gs v v w (w.setCell ⟨gs, i, none⟩ (.int .i64 b)) := by
  have hO := only1 w gs i (.int .i64 b)
  have hne := h.ne
  refine ⟨⟨ext_only' h.ext hO h.hg, h.hB, h.hBb, h.hg, h.hgb, by rw [hO.size]; exact h.hs, h.wl, h.wu, (hO.block _ hne).trans h.row, ?_, by rw [List.length_set]; exact h.len, ?_⟩, ⟨by rw [hO.size]; exact Nat.le_refl _, fun k _ _ h2 _ => hO.block k h2, fun _ h => Or.inl h⟩⟩
  · have a := heap_setCell_same w gs i _ _ (.int .i64 b) h.srow
    rw [← iC_set]
    simpa using a
  · obtain ⟨xs, hx⟩ := h.ops
    exact ⟨xs, hx.young fun b hb _ => hO.block b (by have := h.hgb; omega)⟩
theorem MvA.older (h : MvA w0 w base Bm gs Q W st v ops) {k : Nat} (hk : v.ownBlock = some k) : base ≤ k ∧ k < w.heap.size ∧ ∃ cs fr, w.heap[k]? = some (.cells cs 46 fr) := by
  obtain ⟨xs, hx⟩ := h.ops
  obtain ⟨h1, cs, fr, h2⟩ := PtKind hx.own k hk
  exact ⟨h1, (Array.getElem?_eq_some_iff.1 h2).1, cs, fr, h2⟩
end

set_option maxRecDepth 100000 in
/-- One more operation. -/
theorem mv_append {w0 wA wC : World} {base Bm gs Q : Nat} {W : List Nat} {st : List Int} {v : Value} {ops : List Gop} (h : MvA w0 wA base Bm gs Q W st v ops) (hx : Ext wA wC) (ty : TypeId) {g : Gop} {a1 : Option Addr} {n1 c1 : Nat} {a2 : Option Addr} {n2 c2 : Nat} (hO : OpN wC wA.heap.size g a1 n1 c1 a2 n2 c2) (ad : Addr)
    (k2 : ∀ j u, ([.int .i64 g.kind, .int .i64 g.k, .slice a1 n1 c1, .int .i64 g.q, .int .i64 g.bit, .slice a2 n2 c2] : List Value)[j]? = some u → wC.cell? (ad.add j) = some u) (hm : ops.length ≤ 1000000) :
    ∃ a' c' w1, (Builtin.append_ #[32, 32] ty #[v, .slice (some ad) 1 1]).run Tryd.prog wC = .ok (.slice a' (ops.length + 1) c') w1 ∧ w1.heap[Bm]? = wC.heap[Bm]? ∧
      MvA w0 (w1.setCell ⟨Bm, 13, none⟩ (.slice a' (ops.length + 1) c')) base Bm gs Q W st (.slice a' (ops.length + 1) c') (ops ++ [g]) ∧ MvX Bm gs v (.slice a' (ops.length + 1) c') wA (w1.setCell ⟨Bm, 13, none⟩ (.slice a' (ops.length + 1) c')) := by
  obtain ⟨i0, hi, hz0, hz1, hz2⟩ := opInfo
  obtain ⟨xs, hX⟩ := h.ops
  have hC := h.grow hx
  have hXC := hX.ext hx
  obtain ⟨v', w1, e1, e2, e3, _, e5⟩ := run_append_own_at (P := Tryd.prog) wC base 32 ty 46 i0 _ 6 80 Tryd.underlying32 hi hz0 hz1 hz2 rfl (by decide) v ops.length xs hXC.own ad 1 1 _ rfl k2 (one_op _ _ _ _ _ _ _ _ _ _) (by unfold maxLen; omega) (by omega) hC.hs
  obtain ⟨a', c', hv'⟩ : ∃ a' c', v' = .slice a' (ops.length + 1) c' := by
    rcases e2.2 with ⟨rfl, h0⟩ | ⟨g, cap, cur, rfl, _⟩
    · omega
    · exact ⟨_, _, rfl⟩
  subst hv'
  have hkd : ∀ k, v.ownBlock = some k → base ≤ k ∧ k < wC.heap.size ∧ ∃ cs fr, wC.heap[k]? = some (.cells cs 46 fr) := fun k hk => hC.older hk
  have hbk : w1.heap[Bm]? = wC.heap[Bm]? := e3.block Bm hC.lt (fun e => by
    obtain ⟨_, _, cs, fr, hr⟩ := hkd Bm e.symm
    rw [hC.row] at hr
    injection hr with hr
    injection hr with _ hr _
    exact absurd hr (by decide))
  have hOn := only1 w1 Bm 13 (.slice a' (ops.length + 1) c')
  have hrow1 : w1.heap[Bm]? = some (.cells (mvC W (.slice (some ⟨gs, 0, none⟩) Q Q) v) 84 (0, 0)) := hbk.trans hC.row
  have hk : ∀ (b : Nat) (cur : Array Value) (fr : Nat × Nat), wC.heap[b]? = some (.cells cur 3 fr) → (w1.setCell ⟨Bm, 13, none⟩ (.slice a' (ops.length + 1) c')).heap[b]? = wC.heap[b]? := by
    intro b cur fr hb
    have hbl := (Array.getElem?_eq_some_iff.1 hb).1
    rw [hOn.block b (fun e => by
      rw [e, hC.row] at hb
      injection hb with hb
      injection hb with _ hb _
      exact absurd hb (by decide))]
    exact e3.block b hbl (fun e => by
      obtain ⟨_, _, cs, fr', hr⟩ := hkd b e.symm
      rw [hb] at hr
      injection hr with hr
      injection hr with _ hr _
      exact absurd hr (by decide))
  have hsz : wC.heap.size ≤ (w1.setCell ⟨Bm, 13, none⟩ (.slice a' (ops.length + 1) c')).heap.size := by rw [hOn.size]; exact e3.size
  refine ⟨a', c', w1, e1, hbk, ⟨?_, h.hB, h.hBb, h.hg, h.hgb, Nat.le_trans hC.hs hsz, h.wl, h.wu, ?_, ?_, h.len, ?_⟩, ?_⟩
  · have hx1 : Ext w0 w1 := grown_ext hC.ext e3 (fun k hk => by have := (hkd k hk).1; have := h.hB; have := h.hBb; omega)
    exact ext_only' hx1 hOn h.hB
  · have := heap_setCell_same w1 Bm 13 _ _ (.slice a' (ops.length + 1) c') hrow1
    rw [← mvC_set h.wl]
    simpa using this
  · exact (hk gs _ _ hC.srow).trans hC.srow
  · refine ⟨_, OpsX.snoc hXC ?_ hk (hX.old) h.hs (hO.keep hk)⟩
    refine own_keep e2 (fun b cur hb hbc => hOn.block b ?_)
    rintro rfl
    rw [hrow1] at hbc
    injection hbc with hbc
    injection hbc with _ hbc _
    exact absurd hbc (by decide)
  · refine ⟨Nat.le_trans hx.size hsz, fun k hk1 h1 _ h3 => ?_, fun k hk1 => ?_⟩
    · rw [hOn.block k h1, e3.block k (Nat.lt_of_lt_of_le hk1 hx.size) (fun e => h3 e.symm)]
      exact hx.block k hk1
    · rcases e5 with e | e
      · exact Or.inl (by rw [← e]; exact hk1)
      · rw [e] at hk1
        injection hk1 with hk1
        exact Or.inr (by have := hx.size; omega)
end Go.Proofs.YtlmfhopifggeaaaDoor
namespace Go.Proofs.YtlmfhopifggeaaaDoor
open Go.RowKit

/-- Where what stood at a or b stands behind an exchange. -/
def swp (a b x : Int) : Int := if x = a then b else if x = b then a else x
/-- An X with a control. -/
def xc (q c : Int) : Gop := ⟨2, 0, [c], q, 0, []⟩
def exO (a b : Int) : List Gop := [xc b a, xc a b, xc b a]
def evn (a b : Int) (i : Nat) : Int := if i % 2 = 0 then a else b
theorem exO_at (a b : Int) (i : Nat) (h : i < 3) : (exO a b).take (i + 1) = (exO a b).take i ++ [xc (evn b a i) (evn a b i)] := by
  match i, h with
  | 0, _ => rfl
  | 1, _ => rfl
  | 2, _ => rfl
theorem evn_next (a b : Int) (i : Nat) : evn a b (i + 1) = evn b a i := by
  unfold evn
  by_cases h : i % 2 = 0
  · rw [if_neg (by omega), if_pos h]
  · rw [if_pos (by omega), if_neg h]
/-- The control of an X, just made. -/
theorem opN_xc {w : World} {B b : Nat} (q c : Int) (h : w.heap[b]? = some (.cells #[.int .i64 c] 3 (0, 0))) (hb : B ≤ b) : OpN w B (xc q c) (some ⟨b, 0, none⟩) 1 1 none 0 0 :=
  ⟨own_fst h hb, ⟨rfl, Or.inl ⟨rfl, rfl⟩⟩, fun k _ e => by cases e⟩
/-- Some of them exchanged. -/
def swT (a b : Int) (st : List Int) (i : Nat) : List Int := (st.take i).map (swp a b) ++ st.drop i
theorem swT_zero (a b : Int) (st : List Int) : swT a b st 0 = st := by unfold swT; simp
theorem swT_end (a b : Int) (st : List Int) {i : Nat} (h : st.length ≤ i) : swT a b st i = st.map (swp a b) := by
  unfold swT
  rw [List.take_of_length_le h, List.drop_eq_nil_of_le h, List.append_nil]
theorem swT_at (a b : Int) (st : List Int) {i : Nat} (h : i < st.length) : (swT a b st i).getD i 0 = st.getD i 0 := by
  unfold swT
  rw [List.getD_eq_getElem?_getD, List.getElem?_append_right (by rw [List.length_map, List.length_take]; omega), List.length_map, List.length_take, show i - min i st.length = 0 by omega, List.getElem?_drop, Nat.add_zero, List.getD_eq_getElem?_getD]
theorem swT_set (a b : Int) (st : List Int) {i : Nat} (h : i < st.length) : (swT a b st i).set i (swp a b (st.getD i 0)) = swT a b st (i + 1) := by
  unfold swT
  have hl : ((st.take i).map (swp a b)).length = i := by rw [List.length_map, List.length_take]; omega
  rw [List.set_append_right _ _ (by omega), hl, Nat.sub_self, List.drop_eq_getElem_cons h, List.set_cons_zero, List.take_add_one, List.getElem?_eq_getElem h, Option.toList_some, List.map_append, List.append_assoc, List.getD_eq_getElem?_getD, List.getElem?_eq_getElem h]
  rfl
theorem swT_same (a b : Int) (st : List Int) {i : Nat} (h : i < st.length) (hs : swp a b (st.getD i 0) = st.getD i 0) : swT a b st i = swT a b st (i + 1) := by
  rw [← swT_set a b st h, hs]
  have hl : i < (swT a b st i).length := by unfold swT; simp; omega
  have e := swT_at a b st h
  rw [← e, List.getD_eq_getElem?_getD, List.getElem?_eq_getElem hl]
  exact (List.set_getElem_self hl).symm

set_option maxRecDepth 100000 in
set_option maxHeartbeats 4000000 in
theorem exchange_any (w0 w : World) (base Bm gs Q : Nat) (W : List Nat) (st : List Int) (v : Value) (ops : List Gop) (a b : Int) (h : MvA w0 w base Bm gs Q W st v ops) (hab : a ≠ b) (hQ : Q ≤ 12) (hl : ops.length ≤ 900000) :
    Calls Tryd.prog 73 #[.pointer (some ⟨Bm, 0, none⟩), .int .i64 a, .int .i64 b] w fun e w' => e = .returned (.tuple #[]) ∧ ∃ v', MvA w0 w' base Bm gs Q W (st.map (swp a b)) v' (ops ++ exO a b) ∧ MvX Bm gs v v' w w' := by
  have HA := Lib.hid h; have Hl := Lib.hid hl; have HQ := Lib.hid hQ; have Hab := Lib.hid hab
  clear h hl hQ hab
  go_enter Tryd.func73, Tryd.ntmps73
  go_wp2_with fail
  go_loopg [1, 2, 8] 3 (fun kk s1 s2 s8 wr => ∃ (i : Nat) (v' : Value), s8 = .int .i64 (i : Int) ∧ s1 = .int .i64 (evn a b i) ∧ s2 = .int .i64 (evn b a i) ∧ i ≤ 3 ∧ 3 - i = kk ∧ MvA w0 wr base Bm gs Q W st v' (ops ++ (exO a b).take i) ∧ MvX Bm gs v v' w wr)
  case atStart => exact ⟨0, v, rfl, rfl, rfl, by omega, rfl, by rw [List.take_zero, List.append_nil]; exact HA.out, MvX.refl _ _ _ _⟩
  case round =>
    obtain ⟨i, v1, rfl, rfl, rfl, hi, hk, hA, hX⟩ := hrel
    have Hk := Lib.hid hk; have HA1 := Lib.hid hA; have HX1 := Lib.hid hX
    by_cases hin : i = 3
    · subst hin
      have c12 := hA.xs
      have HA2 := Lib.hid (show MvA w0 wr base Bm gs Q W st v1 (ops ++ exO a b) from hA)
      have e1 : evn a b 3 = b := rfl
      have e2 : evn b a 3 = a := rfl
      rw [e1, e2]
      clear hi hk hA hX HA1 e1 e2 HA
      go_wp2_with fail
      clear c12
      go_loopg [6, 7, 31] Q (fun kk _ _ s31 wx => ∃ i : Nat, s31 = .int .i64 (i : Int) ∧ i ≤ Q ∧ Q - i = kk ∧ MvA w0 wx base Bm gs Q W (swT a b st i) v1 (ops ++ exO a b) ∧ MvX Bm gs v v1 w wx)
      case atStart => exact ⟨0, rfl, Nat.zero_le _, rfl, by rw [swT_zero]; exact HA2.out, HX1.out⟩
      case round =>
        have Hst := Lib.hid HA2.out.len
        clear HX1 HA2
        obtain ⟨i, rfl, hi, hk, hA, hX⟩ := hrel
        have Hk := Lib.hid hk; have HA1 := Lib.hid hA; have HX1 := Lib.hid hX
        by_cases hin : i = Q
        · subst hin
          have q1 : ¬ (i : Int) < (i : Int) := by omega
          have HF := Lib.hid (show MvA w0 wr base Bm gs i W (st.map (swp a b)) v1 (ops ++ exO a b) by have := hA; rw [swT_end a b st (by have := Hst.out; omega)] at this; exact this)
          clear hi hk hA hX
          go_wp2_with fail
          go_end0
          exact ⟨rfl, v1, HF.out, HX1.out⟩
        have hlt : i < Q := by omega
        have Hlt := Lib.hid hlt
        have q1 : (i : Int) < (Q : Int) := by omega
        have q0 : (0 : Int) ≤ (i : Int) := by omega
        have wk : IntKind.i64.wrap ((i : Int) + 1) = ((i + 1 : Nat) : Int) := by rw [IntKind.wrap_i64]; have := HQ.out; omega
        have hil : i < st.length := by have := Hst.out; omega
        have c0 := hA.at i hlt
        rw [swT_at a b st hil] at c0
        have c12 := hA.xs; have f0 := hA.fs i
        have hset := swT_set a b st hil
        have hsame := swT_same a b st hil
        obtain ⟨x, hx⟩ : ∃ x, st.getD i 0 = x := ⟨_, rfl⟩
        rw [hx] at c0 hset hsame
        have Hset := Lib.hid hset; have Hsame := Lib.hid hsame
        clear hset hsame hx hi hk hA hX hil hlt hin
        by_cases h1 : x = b
        · have e1 : swp a b x = a := by have := Hab.out; unfold swp; rw [if_neg (fun e => this (e.symm.trans h1)), if_pos h1]
          have HP := Lib.hid (HA1.out.put i a)
          have HS := Lib.hid (show (swT a b st i).set i a = swT a b st (i + 1) by rw [← Hset.out, e1])
          subst h1
          clear e1 Hset Hsame
          go_wp2_with fail
          go_roundg (Q - (i + 1))
          case measure => have := Hk.out; have := Hlt.out; omega
          case rel => exact ⟨i + 1, rfl, Hlt.out, rfl, by rw [← HS.out]; exact HP.out.1, HX1.out.trans HP.out.2⟩
        · have b1 : (x == b) = false := beq_eq_false_iff_ne.2 h1
          by_cases h2 : x = a
          · have e1 : swp a b x = b := by unfold swp; rw [if_pos h2]
            have HP := Lib.hid (HA1.out.put i b)
            have HS := Lib.hid (show (swT a b st i).set i b = swT a b st (i + 1) by rw [← Hset.out, e1])
            subst h2
            clear e1 Hset Hsame h1
            go_wp2_with fail
            go_roundg (Q - (i + 1))
            case measure => have := Hk.out; have := Hlt.out; omega
            case rel => exact ⟨i + 1, rfl, Hlt.out, rfl, by rw [← HS.out]; exact HP.out.1, HX1.out.trans HP.out.2⟩
          · have b2 : (x == a) = false := beq_eq_false_iff_ne.2 h2
            have HS := Lib.hid (show swT a b st i = swT a b st (i + 1) from Hsame.out (by unfold swp; rw [if_neg h2, if_neg h1]))
            clear h1 h2 Hset Hsame
            go_wp2_with fail
            go_roundg (Q - (i + 1))
            case measure => have := Hk.out; have := Hlt.out; omega
            case rel => exact ⟨i + 1, rfl, Hlt.out, rfl, by rw [← HS.out]; exact HA1.out, HX1.out⟩
    have hlt : i < 3 := by omega
    have Hlt := Lib.hid hlt
    have q1 : (i : Int) < 3 := by omega
    have wk : IntKind.i64.wrap ((i : Int) + 1) = ((i + 1 : Nat) : Int) := by rw [IntKind.wrap_i64]; omega
    have hex := exO_at a b i hlt
    have hen := evn_next a b i; have hen' := evn_next b a i
    obtain ⟨x, hx⟩ : ∃ x, evn a b i = x := ⟨_, rfl⟩
    obtain ⟨y, hy⟩ : ∃ y, evn b a i = y := ⟨_, rfl⟩
    rw [hx] at hen' hex
    rw [hy] at hen hex
    rw [hx, hy]
    obtain ⟨L, hL⟩ : ∃ L, (ops ++ (exO a b).take i).length = L := ⟨_, rfl⟩
    have hLb : L ≤ 900003 := by rw [← hL, List.length_append, List.length_take]; have := Hl.out; show _ + min i 3 ≤ _; omega
    obtain ⟨av, cv, hv⟩ := hA.sl
    rw [hL] at hv
    subst hv
    have EU := ext_al wr (.cells #[.int .i64 x] 3)
    have hr0 := heap_alloc_new wr (.cells #[.int .i64 x] 3)
    obtain ⟨U, hU⟩ : ∃ U, wr.alloc (.cells #[.int .i64 x] 3) = U := ⟨_, rfl⟩
    rw [hU] at EU hr0
    have EV := ext_al U (.cells #[.int .i64 2, .int .i64 0, .slice (some ⟨wr.heap.size, 0, none⟩) 1 1, .int .i64 y, .int .i64 0, .slice none 0 0] 46)
    obtain ⟨V, hV⟩ : ∃ V, U.alloc (.cells #[.int .i64 2, .int .i64 0, .slice (some ⟨wr.heap.size, 0, none⟩) 1 1, .int .i64 y, .int .i64 0, .slice none 0 0] 46) = V := ⟨_, rfl⟩
    rw [hV] at EV
    have hN := opN_xc y x ((EV.block _ (Array.getElem?_eq_some_iff.1 hr0).1).trans hr0) (Nat.le_refl _)
    obtain ⟨a9, c9, w9, r9, k9, A9, X9⟩ := mv_append hA (EU.trans EV) 32 hN ⟨U.heap.size, 0, none⟩ (by rw [← hV]; exact new_op U _ _ _ _ _ _ _ _ _ _ _) (by omega)
    rw [hL] at r9 A9 X9
    rw [← hV, ← hU, show (wr.alloc (.cells #[.int .i64 x] 3)).heap.size = wr.heap.size + 1 from by simp] at r9
    have c13 := hA.xv
    have hBl := hA.lt
    have d13 : w9.cell? ⟨Bm, 13, none⟩ = some (.slice av L cv) := (World.cell?_of_block (a := ⟨Bm, 13, none⟩) k9).trans (cell_ext c13 (EU.trans EV))
    have f13 : w9.frozen? ⟨Bm, 13, none⟩ = false := (World.frozen?_of_block (a := ⟨Bm, 13, none⟩) k9).trans ((hA.grow (EU.trans EV)).f 13)
    have Hr9 := Lib.hid r9; have HA9 := Lib.hid A9; have HX9 := Lib.hid (HX1.out.trans X9); have Hex := Lib.hid hex; have Hen := Lib.hid hen; have Hen' := Lib.hid hen'
    clear hex hen hen' hx hy hL hLb hN r9 A9 X9 hU hV EU EV hr0 hA hX hk hi hin hlt k9
    go_wp2_with (at_builtin; refine Lib.wpList_append_run _ rfl _ _ _ _ rfl _ _ rfl rfl _ _ Hr9.out ?_)
    go_roundg (3 - (i + 1))
    case measure => have := Hk.out; have := Hlt.out; omega
    case rel => exact ⟨i + 1, _, rfl, by rw [Hen.out], by rw [Hen'.out], Hlt.out, rfl, by rw [Hex.out, ← List.append_assoc]; exact HA9.out, HX9.out⟩
end Go.Proofs.YtlmfhopifggeaaaDoor
namespace Go.Proofs.YtlmfhopifggeaaaDoor

/-- Basis state y is x, with qubit q at place p q. -/
structure Sp (p : Nat → Nat) (Q x y : Nat) : Prop where
  on : ∀ q, q < Q → y.testBit (p q) = x.testBit q
  off : ∀ j, (∀ q, q < Q → j ≠ p q) → y.testBit j = false
  few : ∀ j, Q ≤ j → x.testBit j = false
/-- State s' is s, with qubit q at place p q. -/
structure Spr (p : Nat → Nat) (Q : Nat) (s s' : Nat → Nm) : Prop where
  on : ∀ x y, Sp p Q x y → s' y = s x
  off : ∀ y j, (∀ q, q < Q → j ≠ p q) → y.testBit j = true → s' y = nZ
theorem bit_fl (x q j : Nat) : (x ^^^ 2 ^ q).testBit j = (x.testBit j ^^ decide (q = j)) := by
  rw [Nat.testBit_xor, Nat.testBit_two_pow]
/-- Places that are apart. -/
def Inj (p : Nat → Nat) (Q : Nat) : Prop := ∀ a b, a < Q → b < Q → p a = p b → a = b
theorem Sp.fl {p : Nat → Nat} {Q x y : Nat} (h : Sp p Q x y) (hp : Inj p Q) {q : Nat} (hq : q < Q) : Sp p Q (x ^^^ 2 ^ q) (y ^^^ 2 ^ p q) := by
  refine ⟨fun a ha => ?_, fun j hj => ?_, fun j hj => ?_⟩
  · rw [bit_fl, bit_fl, h.on a ha]
    by_cases e : q = a
    · subst e; simp
    · have : ¬ p q = p a := fun k => e (hp q a hq ha k)
      simp [e, this]
  · rw [bit_fl, h.off j hj]
    have : ¬ p q = j := fun k => hj q hq k.symm
    simp [this]
  · rw [bit_fl, h.few j hj]
    have : ¬ q = j := by omega
    simp [this]
/-- A controlled flip of basis states. -/
def cf (c q y : Nat) : Nat := if y.testBit c then y ^^^ 2 ^ q else y
theorem bit_cf (c q y j : Nat) : (cf c q y).testBit j = (y.testBit j ^^ (y.testBit c && decide (q = j))) := by
  unfold cf
  cases h : y.testBit c
  · simp
  · rw [if_pos rfl, bit_fl]; simp
theorem cf_thrice {a b : Nat} (hab : a ≠ b) (y j : Nat) : (cf a b (cf b a (cf a b y))).testBit j = y.testBit (if j = a then b else if j = b then a else j) := by
  have hba : ¬ b = a := fun e => hab e.symm
  simp only [bit_cf]
  by_cases h1 : j = a
  · subst h1
    simp [hba]
    cases y.testBit j <;> cases y.testBit b <;> rfl
  · by_cases h2 : j = b
    · subst h2
      simp [hab, hba]
    · have h3 : ¬ a = j := fun e => h1 e.symm
      have h4 : ¬ b = j := fun e => h2 e.symm
      simp [h1, h2, h3, h4]
theorem gt_xc (q c : Int) (s : Nat → Nm) (y : Nat) : gt (xc q c) s y = s (cf c.toNat q.toNat y) := by
  unfold gt xc cf ons bt fl
  simp only [List.all_cons, List.all_nil, Bool.and_true]
  by_cases h : y.testBit c.toNat = true
  · rw [if_pos h, if_pos h]; simp
  · rw [if_neg h, if_neg h]
/-- Where a place stands behind an exchange. -/
def swN (a b j : Nat) : Nat := if j = a then b else if j = b then a else j
theorem swN_swN (a b j : Nat) : swN a b (swN a b j) = j := by
  unfold swN
  by_cases h1 : j = a
  · subst h1; simp
  · by_cases h2 : j = b
    · subst h2; simp [h1]
    · simp [h1, h2]
/-- An exchange carries the places. -/
theorem Spr.exch {p : Nat → Nat} {Q : Nat} {s s' : Nat → Nm} (h : Spr p Q s s') {a b : Int} (hab : a.toNat ≠ b.toNat) : Spr (fun q => swN a.toNat b.toNat (p q)) Q s (gt (xc b a) (gt (xc a b) (gt (xc b a) s'))) := by
  have e : ∀ y, gt (xc b a) (gt (xc a b) (gt (xc b a) s')) y = s' (cf a.toNat b.toNat (cf b.toNat a.toNat (cf a.toNat b.toNat y))) := fun y => by rw [gt_xc, gt_xc, gt_xc]
  have hb : ∀ y j, (cf a.toNat b.toNat (cf b.toNat a.toNat (cf a.toNat b.toNat y))).testBit j = y.testBit (swN a.toNat b.toNat j) := fun y j => cf_thrice hab y j
  refine ⟨fun x y hs => ?_, fun y j hj hy => ?_⟩
  · rw [e]
    refine h.on x _ ⟨fun q hq => ?_, fun j hj => ?_, hs.few⟩
    · rw [hb]; exact hs.on q hq
    · rw [hb]
      exact hs.off _ (fun q hq k => hj q hq (by rw [← swN_swN a.toNat b.toNat j, k, swN_swN]))
  · rw [e]
    refine h.off _ (swN a.toNat b.toNat j) (fun q hq k => hj q hq (by rw [← k, swN_swN])) ?_
    rw [hb, swN_swN]; exact hy
/-- So do outcomes. -/
theorem Spr.oc {p : Nat → Nat} {Q : Nat} {s s' : Nat → Nm} (h : Spr p Q s s') {q : Nat} (hq : q < Q) {q' : Int} (e : q'.toNat = p q) (b : Int) : Spr p Q (oc (q : Int) b s) (oc q' b s') := by
  refine ⟨fun x y hs => ?_, fun y j hj hy => ?_⟩
  · unfold Go.Proofs.YtlmfhopifggeaaaDoor.oc bt
    rw [e, hs.on q hq, h.on x y hs]
    simp
  · unfold Go.Proofs.YtlmfhopifggeaaaDoor.oc
    rw [h.off y j hj hy]
    simp
theorem Sp.ons {p : Nat → Nat} {Q x y : Nat} (h : Sp p Q x y) : ∀ (l : List Int), (∀ c ∈ l, c.toNat < Q) → ons y (l.map fun c => ((p c.toNat : Nat) : Int)) = ons x l
  | [], _ => rfl
  | c :: r, hl => by
    have h1 := Sp.ons h r (fun d hd => hl d (by simp [hd]))
    have h2 := h.on c.toNat (hl c (by simp))
    unfold Go.Proofs.YtlmfhopifggeaaaDoor.ons at h1 ⊢
    simp only [List.map_cons, List.all_cons]
    rw [h1]
    unfold bt
    rw [Int.toNat_natCast, h2]
/-- So do gates. -/
theorem Spr.gt {p : Nat → Nat} {Q : Nat} {s s' : Nat → Nm} (h : Spr p Q s s') (hp : Inj p Q) {o o' : Gop} (hk : o'.kind = o.kind) (hkk : o'.k = o.k) (hc : o'.ctl = o.ctl.map fun c => ((p c.toNat : Nat) : Int)) (hcQ : ∀ c ∈ o.ctl, c.toNat < Q) (hq : o.kind ≠ 1 → o.q.toNat < Q ∧ o'.q.toNat = p o.q.toNat) : Spr p Q (gt o s) (gt o' s') := by
  refine ⟨fun x y hs => ?_, fun y j hj hy => ?_⟩
  · have h0 := h.on x y hs
    unfold Go.Proofs.YtlmfhopifggeaaaDoor.gt
    rw [hk, hkk, hc, hs.ons o.ctl hcQ]
    by_cases k1 : o.kind = 1
    · rw [if_pos k1, if_pos k1, h0]
    obtain ⟨q1, q2⟩ := hq k1
    have hb : bt y o'.q = bt x o.q := by unfold bt; rw [q2]; exact hs.on _ q1
    have hf : s' (fl y o'.q) = s (fl x o.q) := by unfold fl; rw [q2]; exact h.on _ _ (hs.fl hp q1)
    rw [if_neg k1, if_neg k1, hb, hf, h0]
  · refine gt_nought (q := (j : Int)) (v := true) (fun k1 => ?_) (fun x hx => h.off x j hj (by unfold bt at hx; rw [Int.toNat_natCast] at hx; exact hx)) y (by unfold bt; rw [Int.toNat_natCast]; exact hy)
    obtain ⟨q1, q2⟩ := hq (by rw [← hk]; exact k1)
    rw [Int.toNat_natCast, q2]
    exact fun e => hj _ q1 e.symm
end Go.Proofs.YtlmfhopifggeaaaDoor
namespace Go.Proofs.YtlmfhopifggeaaaDoor
open Go.RowKit

/-- Where qubits stand: at unlike places. -/
structure StOk (st : List Int) (Q M : Nat) : Prop where
  len : st.length = Q
  lt : ∀ x ∈ st, 0 ≤ x ∧ x < (M : Int)
  nd : st.Nodup
/-- Exchanges over links. -/
inductive Mvs (W : List Nat) : List Int → List Gop → List Int → Nat → Prop where
  | nil (st : List Int) : Mvs W st [] st 0
  | snoc {st st' : List Int} {g : List Gop} {k : Nat} (f p : Nat) : Mvs W st g st' k → lk W f p = true → Mvs W st (g ++ exO (f : Int) (p : Int)) (st'.map (swp (f : Int) (p : Int))) (k + 1)
theorem Mvs.len {W : List Nat} {st st' : List Int} {g : List Gop} {k : Nat} (h : Mvs W st g st' k) : g.length = 3 * k := by
  induction h with
  | nil => rfl
  | snoc f p _ _ ih => rw [List.length_append, ih]; show 3 * _ + 3 = _; omega
theorem swp_inj {a b x y : Int} (h : swp a b x = swp a b y) : x = y := by
  unfold swp at h
  split at h <;> split at h <;> first | omega | (split at h <;> first | omega | (split at h <;> omega))
theorem swp_lt {a b x : Int} {M : Nat} (ha : 0 ≤ a ∧ a < (M : Int)) (hb : 0 ≤ b ∧ b < (M : Int)) (hx : 0 ≤ x ∧ x < (M : Int)) : 0 ≤ swp a b x ∧ swp a b x < (M : Int) := by
  unfold swp
  split
  · exact hb
  · split
    · exact ha
    · exact hx
theorem nodup_map {f : Int → Int} (hf : ∀ x y, f x = f y → x = y) : ∀ {l : List Int}, l.Nodup → (l.map f).Nodup
  | [], _ => by simp
  | a :: r, h => by
    rw [List.nodup_cons] at h
    rw [List.map_cons, List.nodup_cons]
    refine ⟨fun hm => ?_, nodup_map hf h.2⟩
    obtain ⟨x, hx, e⟩ := List.mem_map.1 hm
    exact h.1 (hf _ _ e ▸ hx)
theorem StOk.swap {st : List Int} {Q M : Nat} (h : StOk st Q M) {a b : Int} (ha : 0 ≤ a ∧ a < (M : Int)) (hb : 0 ≤ b ∧ b < (M : Int)) : StOk (st.map (swp a b)) Q M :=
  ⟨by rw [List.length_map]; exact h.len, fun x hx => by
    obtain ⟨y, hy, rfl⟩ := List.mem_map.1 hx
    exact swp_lt ha hb (h.lt y hy), nodup_map (fun _ _ => swp_inj) h.nd⟩
theorem StOk.at {st : List Int} {Q M : Nat} (h : StOk st Q M) {q : Nat} (hq : q < Q) : ∃ x : Nat, st.getD q 0 = (x : Int) ∧ x < M := by
  have hl := h.len
  have h1 := h.lt (st.getD q 0) (by rw [List.getD_eq_getElem?_getD, List.getElem?_eq_getElem (by omega)]; exact List.getElem_mem _)
  exact ⟨(st.getD q 0).toNat, by omega, by omega⟩
theorem StOk.inj {st : List Int} {Q M : Nat} (h : StOk st Q M) {q o : Nat} (hq : q < Q) (ho : o < Q) (e : st.getD q 0 = st.getD o 0) : q = o := by
  have hl := h.len
  have h1 : q < st.length := by omega
  have h2 : o < st.length := by omega
  rw [List.getD_eq_getElem?_getD, List.getD_eq_getElem?_getD, List.getElem?_eq_getElem h1, List.getElem?_eq_getElem h2] at e
  have key := List.pairwise_iff_getElem.1 h.nd
  apply Classical.byContradiction
  intro hn
  by_cases hlt : q < o
  · exact key q o h1 h2 hlt e
  · exact key o q h2 h1 (by omega) e.symm
theorem map_getD (f : Int → Int) (st : List Int) {q : Nat} (h : q < st.length) : (st.map f).getD q 0 = f (st.getD q 0) := by
  rw [List.getD_eq_getElem?_getD, List.getD_eq_getElem?_getD, List.getElem?_map, List.getElem?_eq_getElem h]; rfl
theorem least {P : Nat → Prop} : ∀ m, (∃ k, k ≤ m ∧ P k) → ∃ K, K ≤ m ∧ P K ∧ ∀ k, k < K → ¬ P k
  | 0, ⟨k, hk, hp⟩ => ⟨0, Nat.le_refl _, by have : k = 0 := by omega
                                            subst this; exact hp, fun k hk => by omega⟩
  | m + 1, ⟨k, hk, hp⟩ => by
    by_cases h : ∃ k, k ≤ m ∧ P k
    · obtain ⟨K, h1, h2, h3⟩ := least m h
      exact ⟨K, by omega, h2, h3⟩
    · have e : k = m + 1 := by
        by_cases e : k ≤ m
        · exact absurd ⟨k, e, hp⟩ h
        · omega
      subst e
      exact ⟨m + 1, Nat.le_refl _, hp, fun j hj hpj => h ⟨j, by omega, hpj⟩⟩
/-- The next step of a way. -/
theorem way_step {W : List Nat} {M f t m : Nat} (h : WebOk W M) (hne : f ≠ t) (hnl : lk W f t = false) (hf : (bal W (2 ^ t) (m + 1)).testBit f = true) :
    ∃ K, K + 1 ≤ m ∧ bal W (2 ^ t) (K + 1) &&& W.getD f 0 ≠ 0 ∧ ∀ k, k < K + 1 → bal W (2 ^ t) k &&& W.getD f 0 = 0 := by
  obtain ⟨k, p, h1, h2, h3⟩ := bal_step h hne m hf
  have hp : bal W (2 ^ t) k &&& W.getD f 0 ≠ 0 := fun e => by
    have : (bal W (2 ^ t) k &&& W.getD f 0).testBit p = true := by rw [Nat.testBit_and, h2]; exact h3
    rw [e] at this
    simp at this
  obtain ⟨K, g1, g2, g3⟩ := least (P := fun k => bal W (2 ^ t) k &&& W.getD f 0 ≠ 0) m ⟨k, h1, hp⟩
  match K, g1, g2, g3 with
  | 0, g1, g2, g3 =>
    exfalso
    refine g2 (Nat.eq_of_testBit_eq fun i => ?_)
    rw [Nat.testBit_and, Nat.zero_testBit]
    show ((2 ^ t).testBit i && _) = false
    by_cases e : t = i
    · subst e
      rw [show (W.getD f 0).testBit t = false from hnl, Bool.and_false]
    · rw [Nat.testBit_two_pow_of_ne e, Bool.false_and]
  | K + 1, g1, g2, g3 => exact ⟨K, g1, g2, fun k hk => Classical.byContradiction (g3 k hk)⟩

set_option maxRecDepth 100000 in
set_option maxHeartbeats 4000000 in
theorem bring_any (w0 w : World) (base Bm gs Q M : Nat) (W : List Nat) (st : List Int) (v : Value) (ops : List Gop) (q o : Nat) (h : MvA w0 w base Bm gs Q W st v ops) (hW : WebOk W M) (hc : Conn W M) (hS : StOk st Q M) (hq : q < Q) (ho : o < Q) (hqo : q ≠ o) (hQ : Q ≤ 12) (hT : BruM w0) (hl : ops.length ≤ 800000) :
    Calls Tryd.prog 54 #[.pointer (some ⟨Bm, 0, none⟩), .int .i64 (q : Int), .int .i64 (o : Int)] w fun e w' => e = .returned (.tuple #[]) ∧ ∃ v' st' g k, Mvs W st g st' k ∧ k ≤ M - 2 ∧ lk W (st'.getD q 0).toNat (st'.getD o 0).toNat = true ∧ StOk st' Q M ∧ MvA w0 w' base Bm gs Q W st' v' (ops ++ g) ∧ MvX Bm gs v v' w w' := by
  have HM12 := Lib.hid hW.n12
  obtain ⟨f0, ef0, hf0⟩ := hS.at hq
  obtain ⟨t0, et0, ht0⟩ := hS.at ho
  have hne0 : f0 ≠ t0 := fun e => hqo (hS.inj hq ho (by rw [ef0, et0, e]))
  have hM2 : 2 ≤ M := by omega
  have Hst := Lib.hid (show (bal W (2 ^ t0) (M - 2 + 1)).testBit f0 = true by rw [show M - 2 + 1 = M - 1 by omega]; exact conn_from hW hc ht0 f0 hf0)
  have HA := Lib.hid h; have HW := Lib.hid hW; have HS := Lib.hid hS; have HT := Lib.hid hT; have Hl := Lib.hid hl; have HQ := Lib.hid hQ; have Hef := Lib.hid (show st.getD q 0 = (f0 : Int) ∧ st.getD o 0 = (t0 : Int) ∧ f0 ≠ t0 from ⟨ef0, et0, hne0⟩)
  have p0 : (0 : Int) ≤ (q : Int) := by omega
  have p1 : (q : Int) < (Q : Int) := by omega
  have p2 : (0 : Int) ≤ (o : Int) := by omega
  have p3 : (o : Int) < (Q : Int) := by omega
  have Hqo := Lib.hid (show q < Q ∧ o < Q ∧ q ≠ o from ⟨hq, ho, hqo⟩)
  clear h hW hc hS hT hl hQ ef0 et0 hne0 hM2 hf0 ht0 hq ho hqo
  go_enter Tryd.func54, Tryd.ntmps54
  go_wp2_with fail
  go_loopg [6, 7] (M - 2) (fun kk _ _ wr => ∃ (v' : Value) (st' : List Int) (g : List Gop) (k f t : Nat), Mvs W st g st' k ∧ k + kk ≤ M - 2 ∧ StOk st' Q M ∧ st'.getD q 0 = (f : Int) ∧ st'.getD o 0 = (t : Int) ∧ f ≠ t ∧ (bal W (2 ^ t) (kk + 1)).testBit f = true ∧ MvA w0 wr base Bm gs Q W st' v' (ops ++ g) ∧ MvX Bm gs v v' w wr)
  case atStart => exact ⟨v, st, [], 0, f0, t0, Mvs.nil st, by omega, HS.out, Hef.out.1, Hef.out.2.1, Hef.out.2.2, Hst.out, by rw [List.append_nil]; exact HA.out, MvX.refl _ _ _ _⟩
  case round =>
    clear HA HS Hst Hef
    obtain ⟨v1, st1, g, k, f, t, hM, hk, hS, ef, et, hne, hb, hA, hX⟩ := hrel
    have hq12 := Hqo.out
    have c12 := hA.xs
    have cq := hA.at q hq12.1; have co := hA.at o hq12.2.1
    rw [ef] at cq
    rw [et] at co
    obtain ⟨f', ef', hfM⟩ := hS.at hq12.1
    obtain ⟨t', et', htM⟩ := hS.at hq12.2.1
    have hff : f' = f := by omega
    have htt : t' = t := by omega
    rw [hff] at hfM
    rw [htt] at htM
    have hf12 : f < 12 := by have := HM12.out; omega
    have ht12 : t < 12 := by have := HM12.out; omega
    have HM := Lib.hid hM; have Hk := Lib.hid hk; have HS := Lib.hid hS; have Hef := Lib.hid (And.intro ef (And.intro et hne)); have Hb := Lib.hid hb; have HA := Lib.hid hA; have HX := Lib.hid hX
    have HHas := Lib.hid (fun wx (hx : Ext wr wx) => has_any W Bm f t wx (hA.web.ext hx) hf12 ht12)
    obtain ⟨B, hB⟩ : ∃ B, lk W f t = B := ⟨_, rfl⟩
    rw [hB] at HHas
    have HB := Lib.hid hB; have Hlt := Lib.hid (show f < M ∧ t < M from ⟨hfM, htM⟩); have H12 := Lib.hid (show f < 12 ∧ t < 12 from ⟨hf12, ht12⟩)
    clear hM hk hS ef et hne hb hA hX ef' et' hff htt hfM htM hf12 ht12 hB hq12
    go_upto_region 0 with fail
    go_quiet (fail)
    have HEn := Lib.hid (ext_drewN wr nq)
    clear c12 cq co
    generalize wr.drewN nq = U at *
    cases B
    · obtain ⟨K, hK1, hK2, hK3⟩ := way_step HW.out Hef.out.2.2 HB.out Hb.out
      have hAU := HA.out.grow HEn.out
      have HTw := Lib.hid (toward_any W Bm f t (K + 1) M U hAU.web HW.out H12.out.1 H12.out.2 hK2 hK3 (bruM_ext HT.out hAU.ext))
      have HK1 := Lib.hid hK1; have HAU := Lib.hid hAU
      clear hK1 hK2 hK3 hAU
      go_wp2_with fail
      refine (HHas.out U HEn.out).mono ?_
      rintro e w2 ⟨rfl, rfl⟩
      go_wp2_with fail
      refine HTw.out.mono ?_
      rintro e w3 ⟨p, rfl, hp1, hp2, hx3⟩
      have hA3 := HAU.out.grow hx3
      have hfp : f ≠ p := (HW.out.lt f p hp2).2.2
      have htp : t ≠ p := fun e => by
        have h1 := HB.out
        rw [e, hp2] at h1
        cases h1
      have HEx := Lib.hid (exchange_any w0 w3 base Bm gs Q W st1 v1 (ops ++ g) (f : Int) (p : Int) hA3 (by omega) HQ.out (by
        rw [List.length_append, HM.out.len]
        have := Hl.out; have := Hk.out; have := HM12.out
        omega))
      have HX3 := Lib.hid (HX.out.trans ((MvX.of_ext (Bm := Bm) (gs := gs) v1 HEn.out).trans (MvX.of_ext v1 hx3)))
      have Hp := Lib.hid (And.intro hp1 (And.intro hp2 (And.intro hfp htp)))
      clear hp1 hp2 hfp htp hA3 hx3 HTw
      go_wp2_with fail
      refine HEx.out.mono ?_
      rintro e w4 ⟨rfl, v4, hA4, hX4⟩
      have HA4 := Lib.hid hA4; have HX4 := Lib.hid (HX3.out.trans hX4)
      clear hA4 hX4 HEx
      go_wp2_with fail
      go_roundg K
      case measure => have := HK1.out; omega
      case rel =>
        have hl1 := HS.out.len
        obtain ⟨hp1, hp2, hfp, htp⟩ := Hp.out
        obtain ⟨ef, et, hne⟩ := Hef.out
        have hpM := (HW.out.lt f p hp2).2.1
        refine ⟨v4, _, _, k + 1, p, t, HM.out.snoc f p hp2, by have := Hk.out; have := HK1.out; omega, HS.out.swap (by have := Hlt.out; omega) (by omega), ?_, ?_, fun e => htp e.symm, hp1, by rw [← List.append_assoc]; exact HA4.out, HX4.out⟩
        · rw [map_getD _ _ (by have := Hqo.out; omega), ef]; unfold swp; rw [if_pos rfl]
        · rw [map_getD _ _ (by have := Hqo.out; omega), et]; unfold swp; rw [if_neg (by omega), if_neg (by omega)]
    · have HF := Lib.hid (HA.out.grow HEn.out)
      have HXF := Lib.hid (HX.out.trans (MvX.of_ext (Bm := Bm) (gs := gs) v1 HEn.out))
      go_wp2_with fail
      refine (HHas.out U HEn.out).mono ?_
      rintro e w2 ⟨rfl, rfl⟩
      go_wp2_with fail
      refine bodyPost_ret (results_none rfl _ _ _) rfl ?_
      exact ⟨rfl, v1, st1, g, k, HM.out, by have := Hk.out; omega, by rw [Hef.out.1, Hef.out.2.1]; exact HB.out, HS.out, HF.out, HXF.out⟩
end Go.Proofs.YtlmfhopifggeaaaDoor
