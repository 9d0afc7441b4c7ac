/-
  The program's Control. StateUndoes: the law's own walk.
-/
import Derived.Test.YtfjnlopbmkimiaaGreatDoorProg
import Derived.Test.YtfjnlopbmkimiaaGreatDoorRows
import Derived.BigQuiet
import Derived.Deep.AppendLies
import Derived.Deep.Cut
import Derived.Deep.CutRange
import Derived.Deep.LoopGhost
import Derived.Deep.MidRow
import Derived.Deep.QuietTactic
import Derived.Deep.RegionHeld3
import Derived.Defers
import Derived.Ground.Names2Prog
import Derived.Laws.AppendOwnNone
import Derived.Laws.Bits64b
import Derived.Laws.Concat
import Derived.Laws.CopyOwn
import Derived.Laws.IdiomCopy
import Derived.Laws.IdiomStrings
import Derived.Laws.ResultCell
import Derived.Laws.Rows
import Derived.Lib.AppendIntMem
import Derived.Lib.AppendStr
import Derived.Lib.AppendZeros
import Derived.Lib.AppendZerosOnto
import Derived.Lib.BitFns
import Derived.Lib.Hide
import Derived.Lib.ItoaMem
import Derived.Lib.ItoaNum
import Derived.Lib.Strings
import Derived.Lib.TrailingZeros
import Derived.LoopIn
import Derived.LoopNIn
import Derived.Maps.AppendAt
import Derived.OrdersHeld
import Derived.OrdersIn
import Derived.OwnWalk
import Derived.OwnWalkIn
import Derived.ProofKit
import Derived.RangeFuncBound
import Derived.RangeFuncCalls
import Derived.RangeFuncFrom
import Derived.RangeFuncLeaves
import Derived.Recover
import Derived.RegionTactic
import Derived.Shelf.Abstract
import Derived.Shelf.Bits.Mul64
import Derived.Shelf.LaysM
import Derived.Shelf.Slices.SearchI
import Derived.Shelf.Small.Bits
import Derived.Shelf.Small.Wraps
import Derived.Shelf.Spec.BitsCarry
import Derived.Shelf.Spec.TrailingZeros
import Derived.Shelf.Strconv.Itoa0
import Derived.Shelf.Strconv.Itoa1
import Derived.Shelf.Strconv.Itoa2
import Derived.Shelf.Strconv.Itoa3
import Derived.Shelf.Strings.Builder1
import Derived.Shelf.Strings.BuilderF
import Derived.Shelf.Strings.BuilderK
import Derived.TacticsInMore
import Derived.WalkKit
import Derived.WalkLawsBesides
import Derived.WalkSpells
import Derived.Test.YtfjnlopbmkimiaaGreatDoorS00Mem
import Derived.Test.YtfjnlopbmkimiaaGreatDoorShelf
import Derived.Test.YtfjnlopbmkimiaaGreatDoorS02ShiftI
import Derived.Test.YtfjnlopbmkimiaaGreatDoorS03GuessD
import Derived.Test.YtfjnlopbmkimiaaGreatDoorS04IntB
import Derived.Test.YtfjnlopbmkimiaaGreatDoorS05IntD
import Derived.Test.YtfjnlopbmkimiaaGreatDoorS06GcB
import Derived.Test.YtfjnlopbmkimiaaGreatDoorS07Rg
import Derived.Test.YtfjnlopbmkimiaaGreatDoorS08ZC
import Derived.Test.YtfjnlopbmkimiaaGreatDoorS09Bw
import Derived.Test.YtfjnlopbmkimiaaGreatDoorS10TxT
import Derived.Test.YtfjnlopbmkimiaaGreatDoorS11Xo
import Derived.Test.YtfjnlopbmkimiaaGreatDoorS12Xm
import Derived.Test.YtfjnlopbmkimiaaGreatDoorS13Yg
import Derived.Test.YtfjnlopbmkimiaaGreatDoorS14Rz
import Derived.Test.YtfjnlopbmkimiaaGreatDoorS15Yn
import Derived.Test.YtfjnlopbmkimiaaGreatDoorS16Xt
import Derived.Test.YtfjnlopbmkimiaaGreatDoorS17Dd
import Derived.Test.YtfjnlopbmkimiaaGreatDoorS18Jj
import Derived.Test.YtfjnlopbmkimiaaGreatDoorS19Kd
import Derived.Test.YtfjnlopbmkimiaaGreatDoorS20Km
import Derived.Test.YtfjnlopbmkimiaaGreatDoorS21Ks
namespace Go.Proofs.YtfjnlopbmkimiaaGreatDoor
open Go.RowKit

theorem phase_ctl {g : Gop} {n b : Int} (h : opCode g n b = 0) (hk : g.kind = 1) : g.ctl = [] := by
  unfold opCode at h
  split at h
  · omega
  split at h
  · omega
  split at h
  · omega
  split at h
  · omega
  · next h4 =>
    have hu : usesC g.kind = false := by rw [hk]; rfl
    have : ¬ 0 < g.ctl.length := fun hh => h4 ⟨hh, hu⟩
    exact List.length_eq_zero_iff.1 (by omega)
set_option maxHeartbeats 1000000 in
theorem stepK_storeO {ops : Array Oper} {o : Oper} {a : Act} {K : Act → World → Prop} {Q : Exit → Act → World → Prop} {E : Prop} {w : World} (hgd : o.guard = none) (hd : o.dst = none) (p x : Operand)
    (ho : o.op = .store 60 p x) (b off : Nat) (y0 y1 : Int) (b1 : Option Addr) (n1 d1 : Nat) (y3 y4 : Int) (b2 : Option Addr) (n2 d2 : Nat) (u0 u1 u2 u3 u4 u5 : Value) (hp : a.eval p = .pointer (some ⟨b, off, none⟩)) (hx : a.eval x = .agg #[.int .i64 y0, .int .i64 y1, .slice b1 n1 d1, .int .i64 y3, .int .i64 y4, .slice b2 n2 d2])
    (h0 : w.cell? ⟨b, off, none⟩ = some u0) (h1 : w.cell? ⟨b, off + 1, none⟩ = some u1) (h2 : w.cell? ⟨b, off + 2, none⟩ = some u2) (h3 : w.cell? ⟨b, off + 3, none⟩ = some u3) (h4 : w.cell? ⟨b, off + 4, none⟩ = some u4) (h5 : w.cell? ⟨b, off + 5, none⟩ = some u5) (f : ∀ k, w.frozen? ⟨b, k, none⟩ = false)
    (h : K a ((((((w.setCell ⟨b, off, none⟩ (.int .i64 y0)).setCell ⟨b, off + 1, none⟩ (.int .i64 y1)).setCell ⟨b, off + 2, none⟩ (.slice b1 n1 d1)).setCell ⟨b, off + 3, none⟩ (.int .i64 y3)).setCell ⟨b, off + 4, none⟩ (.int .i64 y4)).setCell ⟨b, off + 5, none⟩ (.slice b2 n2 d2))) :
    if Region.wanted o (yielded ops a.tmps) = true then Oper.wp Tryz.prog o a w K Q else E := by
  have hw : Region.wanted o (yielded ops a.tmps) = true := by simp [Region.wanted, hgd]
  rw [if_pos hw]
  obtain ⟨od, oo, ot, opp, oa, og⟩ := o
  simp only at ho hd
  subst ho hd
  have HH := Lib.hid h
  have f0 := f off; have f1 := f (off + 1); have f2 := f (off + 2); have f3 := f (off + 3); have f4 := f (off + 4); have f5 := f (off + 5)
  clear h f
  unfold Oper.wp execOp
  simp only [hp, hx]
  go_simp
  exact HH.out

set_option maxHeartbeats 8000000 in
set_option maxRecDepth 100000 in
theorem Control_U (c : Gci) (ao : Option Addr) (n cp : Nat) (q : Int) (w : World) (h : OpsAt w ao n c.ops) (hn : n ≤ cp) (hcp : cp ≤ 9223372036854775807) (hS : Shp w) :
    Calls Tryz.prog 20 #[.agg #[.int .i64 c.qubits, .int .i64 c.bits, .slice ao n cp], .int .i64 q] w fun e w' => Ans w w' e (ctrM c q) ∧ Ext w w' := by
  have hl : c.ops.length = n := h.1
  obtain ⟨FC, hFC⟩ : ∃ F, chk c = F := ⟨_, rfl⟩
  obtain ⟨FP, hFP⟩ : ∃ F, pur c = F := ⟨_, rfl⟩
  obtain ⟨R, hR⟩ : ∃ R, ctrM c q = R := ⟨_, rfl⟩
  have hzC : FC.1 = 0 → FC.2 = 0 := fun h => by rw [← hFC] at h ⊢; rw [(chk_zero h).1]
  have hzP : FP.1 = 0 → FP.2 = 0 := fun h => by rw [← hFP] at h ⊢; rw [(pur_zero h).2]
  have hfit : FC.1 = 0 → n ≤ 4096 ∧ ∀ g ∈ c.ops, (g.ctl.length ≤ 1000 ∧ g.cnd.length ≤ 1000) ∧ 1 ≤ g.kind ∧ g.kind ≤ 6 ∧ (g.kind = 1 → g.ctl = []) := fun h => by
    rw [← hFC] at h
    obtain ⟨_, h1, h2, h3, h4, h5, h6⟩ := chk_zero h
    refine ⟨by omega, fun g hg => ?_⟩
    have f := prFit_of_code h2 h3 h4 (h6 g hg)
    exact ⟨⟨Nat.le_trans f.few (by decide), Nat.le_trans f.cfew (by decide)⟩, (opCode_kind (h6 g hg)).1, (opCode_kind (h6 g hg)).2, fun hk => phase_ctl (h6 g hg) hk⟩
  have hR1 : FC.1 ≠ 0 → R = (FC, noC) := fun hh => by
    rw [← hR]; exact ctrM_no (u := FC.1) (v := FC.2) (by unfold ctrF; rw [hFC, if_pos hh]) hh
  have hR2 : FC.1 = 0 → (q < 0 ∨ c.qubits ≤ q) → R = ((10, 0), noC) := fun h1 h2 => by
    rw [← hR]; exact ctrM_no (by unfold ctrF; rw [hFC, if_neg (by simp [h1]), if_pos h2]) (by decide)
  have hR3 : FC.1 = 0 → ¬ (q < 0 ∨ c.qubits ≤ q) → FP.1 ≠ 0 → R = (FP, noC) := fun h1 h2 h3 => by
    rw [← hR]; exact ctrM_no (u := FP.1) (v := FP.2) (by unfold ctrF; rw [hFC, if_neg (by simp [h1]), if_neg h2, hFP, if_pos h3]) h3
  have hR4 : FC.1 = 0 → ¬ (q < 0 ∨ c.qubits ≤ q) → FP.1 = 0 → ∀ t : Int, clnF q 0 c.ops = (12, t) → R = ((12, t), noC) := fun h1 h2 h3 t ht => by
    rw [← hR]; exact ctrM_no (by unfold ctrF; rw [hFC, if_neg (by simp [h1]), if_neg h2, hFP, if_neg (by simp [h3]), ht]) (by decide)
  have hR5 : FC.1 = 0 → ¬ (q < 0 ∨ c.qubits ≤ q) → FP.1 = 0 → clnF q 0 c.ops = (0, 0) → R = ((0, 0), ⟨c.qubits, c.bits, c.ops.map (ctrO q)⟩) := fun h1 h2 h3 ht => by
    rw [← hR]; exact ctrM_yes (by unfold ctrF; rw [hFC, if_neg (by simp [h1]), if_neg h2, hFP, if_neg (by simp [h3]), ht])
  rw [hR]
  clear hR
  obtain ⟨qb, bi, ops⟩ := c
  obtain ⟨uc, vc⟩ := FC
  obtain ⟨up, vp⟩ := FP
  simp only at hzC hzP hfit hl h hR1 hR2 hR3 hR4 hR5 ⊢
  obtain ⟨H, hH⟩ : ∃ H, w.heap.size = H := ⟨_, rfl⟩
  obtain ⟨A1, hA1⟩ : ∃ A1, w.alloc (.cells #[.int .i64 qb, .int .i64 bi, .slice ao n cp] 24) = A1 := ⟨_, rfl⟩
  obtain ⟨A2, hA2⟩ : ∃ A2, A1.alloc (.cells #[.int .i64 0, .int .i64 0, .slice none 0 0] 24) = A2 := ⟨_, rfl⟩
  obtain ⟨A3, hA3⟩ : ∃ A3, A2.alloc (.cells #[.int .i64 0, .int .i64 0] 31) = A3 := ⟨_, rfl⟩
  have s1 : A1.heap.size = H + 1 := by rw [← hA1, ← hH]; simp
  have s2 : A2.heap.size = H + 2 := by rw [← hA2]; simp; omega
  have s3 : A3.heap.size = H + 3 := by rw [← hA3]; simp; omega
  have x1 : Ext w A1 := by rw [← hA1]; exact ext_al _ _
  have x2 : Ext A1 A2 := by rw [← hA2]; exact ext_al _ _
  have x3 : Ext A2 A3 := by rw [← hA3]; exact ext_al _ _
  have bC : CiB A3 H qb bi ao n cp := by
    have : CiB A1 H qb bi ao n cp := by rw [← hA1, ← hH]; exact ⟨heap_alloc_new w _⟩
    exact (this.ext x2).ext x3
  have bR : CiB A3 (H + 1) 0 0 none 0 0 := by
    have : CiB A2 (H + 1) 0 0 none 0 0 := by rw [← hA2, ← s1]; exact ⟨heap_alloc_new A1 _⟩
    exact this.ext x3
  have bF : FtB A3 (H + 2) 0 0 := by rw [← hA3, ← s2]; exact ⟨heap_alloc_new A2 _⟩
  have E0 : Ext w A3 := (x1.trans x2).trans x3
  have hA : ((w.alloc (.cells #[.int .i64 qb, .int .i64 bi, .slice ao n cp] 24)).alloc (.cells #[.int .i64 0, .int .i64 0, .slice none 0 0] 24)).alloc (.cells #[.int .i64 0, .int .i64 0] 31) = A3 := by rw [hA1, hA2, hA3]
  have HK := Lib.hid (Check_any ⟨qb, bi, ops⟩ ao n cp A3 (h.ext E0) hn hcp (hS.ext E0))
  have HKP := Lib.hid (fun wx (hx : Ext w wx) => Pure_any ⟨qb, bi, ops⟩ ao n cp wx (h.ext hx) hn hcp (hS.ext hx))
  rw [hFC] at HK
  rw [hFP] at HKP
  simp only at HK HKP
  have m0 := bC.x0; have m1 := bC.x1; have m2 := bC.x2
  rw [← hA] at m0 m1 m2
  have HA := Lib.hid hA; have HE0 := Lib.hid E0; have HC := Lib.hid bC; have HR := Lib.hid bR; have HFt := Lib.hid bF
  have Hops := Lib.hid h; have Hfit := Lib.hid hfit; have Hl := Lib.hid hl; have Hs3 := Lib.hid s3; have HhH := Lib.hid hH; have HSh := Lib.hid hS
  have HzC := Lib.hid hzC; have HzP := Lib.hid hzP; have HR1 := Lib.hid hR1; have HR2 := Lib.hid hR2; have HR3 := Lib.hid hR3; have HR4 := Lib.hid hR4; have HR5 := Lib.hid hR5
  have HIb := Lib.hid (fun wx => isBelow_any q qb wx)
  clear h E0 bC bR bF x1 x2 x3 s1 s2 s3 hA1 hA2 hA3 hA hfit hl hFC hFP hzC hzP hR1 hR2 hR3 hR4 hR5 hS
  go_enter Tryz.func20, Tryz.ntmps20
  go_wp2_with fail
  rw [HA.out]
  refine HK.out.mono ?_
  rintro e w1 ⟨rfl, hx1⟩
  have Ef := ext_al w1 (.cells #[.int .i64 uc, .int .i64 vc] 31)
  have bf1 : FtB (w1.alloc (.cells #[.int .i64 uc, .int .i64 vc] 31)) w1.heap.size uc vc := ⟨heap_alloc_new w1 _⟩
  have hX := hx1.trans Ef
  have d0 := bf1.x0; have d1 := bf1.x1
  have HbC := Lib.hid (HC.out.ext hX); have HbR := Lib.hid (HR.out.ext hX); have HbF := Lib.hid (HFt.out.ext hX); have HbE := Lib.hid (HE0.out.trans hX)
  have Hlo := Lib.hid (show H + 3 ≤ w1.heap.size by have h1 := hx1.size; have h2 := Hs3.out; omega)
  clear hx1 Ef bf1 hX HK HC HR HFt HE0 m0 m1 m2
  go_upto_region 2 with fail
  generalize w1.alloc (.cells #[.int .i64 uc, .int .i64 vc] 31) = W1 at *
  obtain ⟨Fb, hFb⟩ : ∃ y, w1.heap.size = y := ⟨_, rfl⟩
  rw [hFb] at Hlo d0 d1 ⊢
  have nF1 : Fb ≠ H + 1 := by have := Hlo.out; omega
  have nF2 : Fb ≠ H + 2 := by have := Hlo.out; omega
  clear hFb
  by_cases hu : uc = 0
  rotate_left 1
  · have nu := nt hu; have nb := bf hu
    have HRz := Lib.hid (HR1.out hu)
    clear hu
    have r0 := HbR.out.x0; have r1 := HbR.out.x1; have r2 := HbR.out.x2; have g0 := HbR.out.f 0; have g1 := HbR.out.f 1; have g2 := HbR.out.f 2
    have f0 := HbF.out.x0; have f1 := HbF.out.x1; have k0 := HbF.out.f 0; have k1 := HbF.out.f 1
    have zC := (putCF_C HbR.out (show H + 1 ≠ H + 2 by omega) 0 0 none 0 0 uc vc).drew
    have zF := (putCF_F HbF.out (show H + 1 ≠ H + 2 by omega) 0 0 none 0 0 uc vc).drew
    have zE : Ext w (putCF W1 (H + 1) (H + 2) 0 0 none 0 0 uc vc).drew := Below.drew (putCF_ext HbE.out (show w.heap.size ≤ H + 1 by omega) (show w.heap.size ≤ H + 2 by omega) _ _ _ _ _ _ _)
    obtain ⟨Wz, hWz⟩ : ∃ Wz, putCF W1 (H + 1) (H + 2) 0 0 none 0 0 uc vc = Wz := ⟨_, rfl⟩
    rw [hWz] at zC zF zE
    unfold putCF at hWz
    have HWz := Lib.hid hWz; have HzE := Lib.hid zE
    have v0 := zC.x0; have v1 := zC.x1; have v2 := zC.x2; have v3 := zF.x0; have v4 := zF.x1
    have HAns := Lib.hid (show ∀ e : Ending, e = .returned (.tuple #[.agg #[.int .i64 0, .int .i64 0, .slice none 0 0], .agg #[.int .i64 uc, .int .i64 vc]]) → Ans w Wz.drew e R from fun e he => by rw [HRz.out]; exact Ans.none he)
    clear zC zF zE hWz
    go_upto_region 3 with fail
    go_region
    go_wp2_with fail
    rw [HWz.out]
    exact bodyPost_ret (v := .tuple #[.agg #[.int .i64 0, .int .i64 0, .slice none 0 0], .agg #[.int .i64 uc, .int .i64 vc]]) (by simp [results, Tryz.results20, go_sem, v0, v1, v2, v3, v4]) rfl ⟨HAns.out _ rfl, HzE.out⟩
  have nu := nf' hu
  have Hu := Lib.hid hu
  clear hu
  have l0 := HbC.out.x0; have l1 := HbC.out.x1; have l2 := HbC.out.x2
  obtain ⟨bel, hbel⟩ : ∃ y, below q qb = y := ⟨_, rfl⟩
  rw [hbel] at HIb
  have hbq : bel = true ↔ ¬ (q < 0 ∨ qb ≤ q) := by
    rw [← hbel]; unfold below; simp
  have Hbq := Lib.hid hbq
  clear hbel hbq
  go_wp2_with fail
  refine (HIb.out W1).mono ?_
  rintro e wz ⟨rfl, hwz⟩
  subst hwz
  cases bel with
  | false =>
    have HRz := Lib.hid (HR2.out Hu.out (Decidable.byContradiction fun hh => absurd (Hbq.out.2 (by omega)) (by decide)))
    clear d0 d1 l0 l1 l2 HbC
    have r0 := HbR.out.x0; have r1 := HbR.out.x1; have r2 := HbR.out.x2; have g0 := HbR.out.f 0; have g1 := HbR.out.f 1; have g2 := HbR.out.f 2
    have f0 := HbF.out.x0; have f1 := HbF.out.x1; have k0 := HbF.out.f 0; have k1 := HbF.out.f 1
    have zC := (putCF_C HbR.out (show H + 1 ≠ H + 2 by omega) 0 0 none 0 0 10 0)
    have zF := (putCF_F HbF.out (show H + 1 ≠ H + 2 by omega) 0 0 none 0 0 10 0)
    have zE : Ext w (putCF wz (H + 1) (H + 2) 0 0 none 0 0 10 0) := (putCF_ext HbE.out (show w.heap.size ≤ H + 1 by omega) (show w.heap.size ≤ H + 2 by omega) _ _ _ _ _ _ _)
    obtain ⟨Wz, hWz⟩ : ∃ Wz, putCF wz (H + 1) (H + 2) 0 0 none 0 0 10 0 = Wz := ⟨_, rfl⟩
    rw [hWz] at zC zF zE
    unfold putCF at hWz
    have HWz := Lib.hid hWz; have HzE := Lib.hid zE
    have v0 := zC.x0; have v1 := zC.x1; have v2 := zC.x2; have v3 := zF.x0; have v4 := zF.x1
    have HAns := Lib.hid (show ∀ e : Ending, e = .returned (.tuple #[.agg #[.int .i64 0, .int .i64 0, .slice none 0 0], .agg #[.int .i64 10, .int .i64 0]]) → Ans w Wz e R from fun e he => by rw [HRz.out]; exact Ans.none he)
    clear zC zF zE hWz
    go_wp2_with fail
    rw [HWz.out]
    exact bodyPost_ret (v := .tuple #[.agg #[.int .i64 0, .int .i64 0, .slice none 0 0], .agg #[.int .i64 10, .int .i64 0]]) (by simp [results, Tryz.results20, go_sem, v0, v1, v2, v3, v4]) rfl ⟨HAns.out _ rfl, HzE.out⟩
  | true =>
  have Hq := Lib.hid (show ¬ (q < 0 ∨ qb ≤ q) by have hh := Hbq.out.1 (by trivial); omega)
  go_wp2_with fail
  refine (HKP.out wz HbE.out).mono ?_
  rintro e w2 ⟨rfl, hx2⟩
  clear d0 d1 l0 l1 l2
  have Ef := ext_al w2 (.cells #[.int .i64 up, .int .i64 vp] 31)
  have bf2 : FtB (w2.alloc (.cells #[.int .i64 up, .int .i64 vp] 31)) w2.heap.size up vp := ⟨heap_alloc_new w2 _⟩
  have hX := hx2.trans Ef
  have d0 := bf2.x0; have d1 := bf2.x1
  have HbC2 := Lib.hid (HbC.out.ext hX); have HbR2 := Lib.hid (HbR.out.ext hX); have HbF2 := Lib.hid (HbF.out.ext hX); have HbE2 := Lib.hid (HbE.out.trans hX)
  have Hlo2 := Lib.hid (show H + 3 ≤ w2.heap.size by have h1 := (HbF.out.ext hx2).lt; omega)
  clear hx2 Ef bf2 hX HbC HbR HbF HbE
  have HbC := HbC2; have HbR := HbR2; have HbF := HbF2; have HbE := HbE2
  clear HbC2 HbR2 HbF2 HbE2
  go_upto_region 7 with fail
  generalize w2.alloc (.cells #[.int .i64 up, .int .i64 vp] 31) = W2 at *
  obtain ⟨Pb, hPb⟩ : ∃ y, w2.heap.size = y := ⟨_, rfl⟩
  rw [hPb] at Hlo2 d0 d1 ⊢
  have nP1 : Pb ≠ H + 1 := by have := Hlo2.out; omega
  have nP2 : Pb ≠ H + 2 := by have := Hlo2.out; omega
  clear hPb
  by_cases hup : up = 0
  rotate_left 1
  · have nu := nt hup; have nb := bf hup
    have HRz := Lib.hid (HR3.out Hu.out (by have := Hq.out; omega) hup)
    clear hup
    have r0 := HbR.out.x0; have r1 := HbR.out.x1; have r2 := HbR.out.x2; have g0 := HbR.out.f 0; have g1 := HbR.out.f 1; have g2 := HbR.out.f 2
    have f0 := HbF.out.x0; have f1 := HbF.out.x1; have k0 := HbF.out.f 0; have k1 := HbF.out.f 1
    have zC := (putCF_C HbR.out (show H + 1 ≠ H + 2 by omega) 0 0 none 0 0 up vp).drew
    have zF := (putCF_F HbF.out (show H + 1 ≠ H + 2 by omega) 0 0 none 0 0 up vp).drew
    have zE : Ext w (putCF W2 (H + 1) (H + 2) 0 0 none 0 0 up vp).drew := Below.drew (putCF_ext HbE.out (show w.heap.size ≤ H + 1 by omega) (show w.heap.size ≤ H + 2 by omega) _ _ _ _ _ _ _)
    obtain ⟨Wz, hWz⟩ : ∃ Wz, putCF W2 (H + 1) (H + 2) 0 0 none 0 0 up vp = Wz := ⟨_, rfl⟩
    rw [hWz] at zC zF zE
    unfold putCF at hWz
    have HWz := Lib.hid hWz; have HzE := Lib.hid zE
    have v0 := zC.x0; have v1 := zC.x1; have v2 := zC.x2; have v3 := zF.x0; have v4 := zF.x1
    have HAns := Lib.hid (show ∀ e : Ending, e = .returned (.tuple #[.agg #[.int .i64 0, .int .i64 0, .slice none 0 0], .agg #[.int .i64 up, .int .i64 vp]]) → Ans w Wz.drew e R from fun e he => by rw [HRz.out]; exact Ans.none he)
    clear zC zF zE hWz
    go_upto_region 8 with fail
    go_region
    go_wp2_with fail
    rw [HWz.out]
    exact bodyPost_ret (v := .tuple #[.agg #[.int .i64 0, .int .i64 0, .slice none 0 0], .agg #[.int .i64 up, .int .i64 vp]]) (by simp [results, Tryz.results20, go_sem, v0, v1, v2, v3, v4]) rfl ⟨HAns.out _ rfl, HzE.out⟩
  have nu2 := nf' hup
  have Hup := Lib.hid hup
  clear hup
  obtain ⟨hn4, hfit⟩ := Hfit.out Hu.out
  have Hft := Lib.hid hfit
  have HR4' := Lib.hid (HR4.out Hu.out (by have := Hq.out; omega) Hup.out)
  have HR5' := Lib.hid (HR5.out Hu.out (by have := Hq.out; omega) Hup.out)
  clear hfit
  have l0 := HbC.out.x0; have l1 := HbC.out.x1; have l2 := HbC.out.x2
  go_wp2_with fail
  clear d0 d1 nu2 l0 l1 l2
  go_loopg [8, 9, 37] n (fun kk s8 s9 s37 wx => ∃ i : Nat, s37 = .int .i64 (i : Int) ∧ i ≤ n ∧ n - i = kk ∧ clnF q 0 ops = clnF q i (ops.drop i) ∧ Ext W2 wx)
  case atStart => exact ⟨0, rfl, by omega, by omega, by rw [List.drop_zero], Ext.refl _⟩
  case round =>
    obtain ⟨i, rfl, hin', hk, hcl, hX⟩ := hrel
    by_cases hin : i = n
    rotate_left 1
    · have q1 : (i : Int) < (n : Int) := by omega
      have q1' : decide ((i : Int) < (n : Int)) = true := dt q1
      have q0 : (0 : Int) ≤ (i : Int) := by omega
      obtain ⟨gg, hg⟩ : ∃ g, ops[i]? = some g := ⟨_, List.getElem?_eq_getElem (by rw [Hl.out]; omega)⟩
      rw [clnF_step q ops i gg hg] at hcl
      have hXw := HbE.out.trans hX
      obtain ⟨bo, oo, rfl⟩ := (Hops.out.ext hXw).some_of (by omega)
      obtain ⟨a1, m1, c1, a2, m2, c2, t0, t1, t2, t3, t4, t5, hLo⟩ := (Hops.out.ext hXw).at i gg hg
      obtain ⟨_, hk1, hk6, hph⟩ := Hft.out gg (List.mem_of_getElem? hg)
      have EU := ext_al wr (.cells #[.int .i64 gg.kind, .int .i64 gg.k, .slice a1 m1 c1, .int .i64 gg.q, .int .i64 gg.bit, .slice a2 m2 c2] 60)
      have bx := opbx_new wr gg.kind gg.k a1 m1 c1 gg.q gg.bit a2 m2 c2
      have HUq := Lib.hid (usesQubit_any gg a1 m1 c1 a2 m2 c2 q _ (hLo.i1.ext EU) hLo.h1 hLo.m1 hk1 hk6 hph (HSh.out.ext (hXw.trans EU)))
      have HcR := Lib.hid ((HbR.out.ext hX).ext EU); have HcF := Lib.hid ((HbF.out.ext hX).ext EU); have HcE := Lib.hid (hXw.trans EU); have HcX := Lib.hid (hX.trans EU); have Hcl0 := Lib.hid hcl; have Hk := Lib.hid hk
      have Huse := Lib.hid (show (uses gg q) ↔ (¬ gg.kind = 1 ∧ (gg.q = q ∨ q ∈ gg.ctl)) from Iff.rfl)
      obtain ⟨ub, hub⟩ : ∃ y, decide (uses gg q) = y := ⟨_, rfl⟩
      rw [hub] at HUq
      have Hub := Lib.hid hub
      have v2 := (HbC.out.ext hX).x2
      obtain ⟨kd, kk', ctl, qq, bb, cnd⟩ := gg
      simp only at t0 t1 t3 t4 HUq EU bx
      have e0 := bx.x0; have e1 := bx.x1; have e2 := bx.x2; have e3 := bx.x3; have e4 := bx.x4; have e5 := bx.x5
      clear hcl hk hX hXw hLo hk1 hk6 hph EU bx hg hub
      go_wp2_with fail
      generalize wr.alloc (.cells #[.int .i64 kd, .int .i64 kk', .slice a1 m1 c1, .int .i64 qq, .int .i64 bb, .slice a2 m2 c2] 60) = U at *
      refine HUq.out.mono ?_
      rintro e w4 ⟨rfl, hx4⟩
      have HbR4 := Lib.hid (HcR.out.ext hx4); have HbF4 := Lib.hid (HcF.out.ext hx4); have HbE4 := Lib.hid (HcE.out.trans hx4); have HX4 := Lib.hid (HcX.out.trans hx4)
      clear hx4 HcR HcF HcE HcX e0 e1 e2 e3 e4 e5 t0 t1 t2 t3 t4 t5 v2 HUq
      cases ub with
      | true =>
        have hcl := Hcl0.out
        rw [if_pos (Huse.out.1 (of_decide_eq_true Hub.out))] at hcl
        have HRz := Lib.hid (HR4'.out _ hcl)
        clear hcl HbR HbF HbE
        have HbR := HbR4; have HbF := HbF4; have HbE := HbE4
        clear HbR4 HbF4 HbE4 HX4 HbC
        have r0 := HbR.out.x0; have r1 := HbR.out.x1; have r2 := HbR.out.x2; have g0 := HbR.out.f 0; have g1 := HbR.out.f 1; have g2 := HbR.out.f 2
        have f0 := HbF.out.x0; have f1 := HbF.out.x1; have k0 := HbF.out.f 0; have k1 := HbF.out.f 1
        have zC := (putCF_C HbR.out (show H + 1 ≠ H + 2 by omega) 0 0 none 0 0 12 (i : Int))
        have zF := (putCF_F HbF.out (show H + 1 ≠ H + 2 by omega) 0 0 none 0 0 12 (i : Int))
        have zE : Ext w (putCF w4 (H + 1) (H + 2) 0 0 none 0 0 12 (i : Int)) := (putCF_ext HbE.out (show w.heap.size ≤ H + 1 by omega) (show w.heap.size ≤ H + 2 by omega) _ _ _ _ _ _ _)
        obtain ⟨Wz, hWz⟩ : ∃ Wz, putCF w4 (H + 1) (H + 2) 0 0 none 0 0 12 (i : Int) = Wz := ⟨_, rfl⟩
        rw [hWz] at zC zF zE
        unfold putCF at hWz
        have HWz := Lib.hid hWz; have HzE := Lib.hid zE
        have v0 := zC.x0; have v1 := zC.x1; have v2 := zC.x2; have v3 := zF.x0; have v4 := zF.x1
        have HAns := Lib.hid (show ∀ e : Ending, e = .returned (.tuple #[.agg #[.int .i64 0, .int .i64 0, .slice none 0 0], .agg #[.int .i64 12, .int .i64 (i : Int)]]) → Ans w Wz e R from fun e he => by rw [HRz.out]; exact Ans.none he)
        clear zC zF zE hWz
        go_wp2_with fail
        rw [HWz.out]
        exact bodyPost_ret (v := .tuple #[.agg #[.int .i64 0, .int .i64 0, .slice none 0 0], .agg #[.int .i64 12, .int .i64 (i : Int)]]) (by simp [results, Tryz.results20, go_sem, v0, v1, v2, v3, v4]) rfl ⟨HAns.out _ rfl, HzE.out⟩
      | false =>
        have hcl := Hcl0.out
        rw [if_neg (fun hh => of_decide_eq_false Hub.out (Huse.out.2 hh))] at hcl
        have Hcl := Lib.hid hcl
        clear hcl
        go_wp2_with fail
        go_roundg (n - (i + 1))
        case measure => have := Hk.out; omega
        case rel => exact ⟨i + 1, by go_num, by omega, rfl, Hcl.out, HX4.out⟩
    have q1 : ¬ (i : Int) < (n : Int) := by omega
    have q1' : decide ((i : Int) < (n : Int)) = false := df q1
    rw [hin, clnF_end q ops n (by rw [Hl.out]; omega)] at hcl
    have HRz := Lib.hid (HR5'.out hcl)
    have HcC := Lib.hid (HbC.out.ext hX); have HcR := Lib.hid (HbR.out.ext hX); have HcF := Lib.hid (HbF.out.ext hX); have HcE := Lib.hid (HbE.out.trans hX)
    have l0 := HcC.out.x0; have l1 := HcC.out.x1; have l2 := HcC.out.x2
    have Hin := Lib.hid hin
    clear hcl hX hk hin' HbC HbR HbF HbE hin
    go_wp2_with fail
    obtain ⟨W3, rfl⟩ : ∃ W3 : World, W3 = wr := ⟨_, rfl⟩
    refine (with_N qb bi ao n cp ao n cp ops W3 (Hops.out.ext HcE.out) (by omega) (fun g hg => (Hft.out g hg).1)).mono ?_
    rintro e w5 ⟨⟨av, cv, rfl, hO5⟩, hx5⟩
    clear l0 l1 l2
    have Eo := ext_al w5 (.cells #[.int .i64 qb, .int .i64 bi, .slice av n cv] 24)
    have bO : CiB (w5.alloc (.cells #[.int .i64 qb, .int .i64 bi, .slice av n cv] 24)) w5.heap.size qb bi av n cv := ⟨heap_alloc_new w5 _⟩
    have hX := hx5.trans Eo
    have y2 := bO.x2
    have HcR5 := Lib.hid (HcR.out.ext hX); have HcF5 := Lib.hid (HcF.out.ext hX); have HcE5 := Lib.hid (HcE.out.trans hX); have HO5 := Lib.hid bO; have Hown5 := Lib.hid (hO5.ext Eo)
    have HsF := Lib.hid (show H + 3 ≤ W3.heap.size by have := HcF.out.lt; omega)
    have HOlt := Lib.hid (show ∀ k, (Value.slice av n cv).ownBlock = some k → W3.heap.size + 3 ≤ k ∧ k < w5.heap.size from fun k hk => by
      obtain ⟨xs, hox⟩ := hO5
      exact own_lt hox.own k hk)
    have HOs := Lib.hid (show w5.heap.size < (w5.alloc (.cells #[.int .i64 qb, .int .i64 bi, .slice av n cv] 24)).heap.size by simp)
    have Hw53 := Lib.hid (show W3.heap.size ≤ w5.heap.size from hx5.size)
    clear hx5 hO5 Eo bO hX HcC HcR HcF HcE
    go_wp2_with fail
    generalize w5.alloc (.cells #[.int .i64 qb, .int .i64 bi, .slice av n cv] 24) = W5 at *
    obtain ⟨Ob, hOb⟩ : ∃ y, w5.heap.size = y := ⟨_, rfl⟩
    rw [hOb] at HO5 HOlt HOs Hw53 ⊢
    clear hOb y2
    obtain ⟨base, hbase⟩ : ∃ y, W3.heap.size + 3 = y := ⟨_, rfl⟩
    rw [hbase] at Hown5 HOlt
    have Hbb := Lib.hid (show H + 6 ≤ base by have := HsF.out; omega)
    have HbO := Lib.hid (show H + 3 ≤ Ob by have := HsF.out; have := Hw53.out; omega)
    clear hbase
    go_loopg [11, 12, 56] n (fun kk s11 s12 s56 wx => ∃ i : Nat, s56 = .int .i64 (i : Int) ∧ i ≤ n ∧ n - i = kk ∧ CiB wx (H + 1) 0 0 none 0 0 ∧ FtB wx (H + 2) 0 0 ∧ CiB wx Ob qb bi av n cv ∧ OpsN wx base (.slice av n cv) (mapF (ctrO q) ops i) ∧ Ext w wx ∧ Ob < wx.heap.size)
    case atStart => exact ⟨0, rfl, by omega, by omega, HcR5.out, HcF5.out, HO5.out, by rw [mapF_zero]; exact Hown5.out, HcE5.out, HOs.out⟩
    case round =>
      clear HcR5 HcF5 HO5 Hown5 HcE5
      obtain ⟨i, rfl, hin', hk, bR, bF, bO, hO, hX, hsO⟩ := hrel
      have hbO := HbO.out
      by_cases hin : i = n
      · have q1 : ¬ (i : Int) < (n : Int) := by omega
        have q1' : decide ((i : Int) < (n : Int)) = false := df q1
        rw [mapF_all (by rw [Hl.out]; omega)] at hO
        have y0 := bO.x0; have y1 := bO.x1; have y2 := bO.x2
        have r0 := bR.x0; have r1 := bR.x1; have r2 := bR.x2; have g0 := bR.f 0; have g1 := bR.f 1; have g2 := bR.f 2
        have f0 := bF.x0; have f1 := bF.x1; have k0 := bF.f 0; have k1 := bF.f 1
        have zC := putCF_C bR (show H + 1 ≠ H + 2 by omega) qb bi av n cv 0 0
        have zF := putCF_F bF (show H + 1 ≠ H + 2 by omega) qb bi av n cv 0 0
        have zO := (putCF_opsN hO bR bF (show H + 1 ≠ H + 2 by omega) qb bi av n cv 0 0).down (show w.heap.size ≤ base by have := Hbb.out; omega)
        have zE : Ext w (putCF wr (H + 1) (H + 2) qb bi av n cv 0 0) := putCF_ext hX (show w.heap.size ≤ H + 1 by omega) (show w.heap.size ≤ H + 2 by omega) _ _ _ _ _ _ _
        obtain ⟨Wz, hWz⟩ : ∃ Wz, putCF wr (H + 1) (H + 2) qb bi av n cv 0 0 = Wz := ⟨_, rfl⟩
        rw [hWz] at zC zF zO zE
        unfold putCF at hWz
        have HWz := Lib.hid hWz; have HzE := Lib.hid zE
        have HAns := Lib.hid (show ∀ e : Ending, e = .returned (.tuple #[.agg #[.int .i64 qb, .int .i64 bi, .slice av n cv], .agg #[.int .i64 0, .int .i64 0]]) → Ans w Wz e R from fun e he => by rw [HRz.out]; exact ⟨av, n, cv, he, zO⟩)
        have v0 := zC.x0; have v1 := zC.x1; have v2 := zC.x2; have v3 := zF.x0; have v4 := zF.x1
        clear zC zF zO zE hWz bR bF bO hO hX hin' hk hsO hin
        go_wp2_with fail
        rw [HWz.out]
        exact bodyPost_ret (v := .tuple #[.agg #[.int .i64 qb, .int .i64 bi, .slice av n cv], .agg #[.int .i64 0, .int .i64 0]]) (by simp [results, Tryz.results20, go_sem, v0, v1, v2, v3, v4]) rfl ⟨HAns.out _ rfl, HzE.out⟩
      have q1 : (i : Int) < (n : Int) := by omega
      have q1' : decide ((i : Int) < (n : Int)) = true := dt q1
      have p0 : (0 : Int) ≤ (i : Int) := by omega
      obtain ⟨gg, hg⟩ : ∃ g, ops[i]? = some g := ⟨_, List.getElem?_eq_getElem (by rw [Hl.out]; omega)⟩
      obtain ⟨⟨hbl1, hbl2⟩, _⟩ := Hft.out gg (List.mem_of_getElem? hg)
      obtain ⟨hl2, g, cur, eav, hbg, hrw, hnc, hcm, hsz, hsep, hrow⟩ := opsN_open hO (by omega)
      subst eav
      obtain ⟨a1, m1, c1, a2, m2, c2, x0, x1, x2, x3, x4, x5, x6⟩ := hrow i gg (by rw [mapF_get (by rw [Hl.out]; omega), if_neg (by omega)]; exact hg)
      have ce : ∀ (k : Nat) (v : Value), cur[k]? = some v → wr.cell? ⟨g, k, none⟩ = some v := fun k v e => by rw [cell_of_row wr g k cur _ (0, 0) hrw]; exact e
      have t0 := ce _ _ x0; have t1 := ce _ _ x1; have t2 := ce _ _ x2; have t3 := ce _ _ x3; have t4 := ce _ _ x4; have t5 := ce _ _ x5
      have gOb : g < Ob := (HOlt.out g rfl).2
      have hn1' : m1 ≤ 1000 := by rw [← x6.opO.l.i1.1]; exact hbl1
      obtain ⟨U, hU⟩ : ∃ U, wr.alloc (.cells #[.int .i64 gg.kind, .int .i64 gg.k, .slice a1 m1 c1, .int .i64 gg.q, .int .i64 gg.bit, .slice a2 m2 c2] 60) = U := ⟨_, rfl⟩
      obtain ⟨Bx, hBx⟩ : ∃ x, wr.heap.size = x := ⟨_, rfl⟩
      have hEU : Ext wr U := by rw [← hU]; exact ext_al _ _
      have bx : OpBx U Bx gg.kind gg.k a1 m1 c1 gg.q gg.bit a2 m2 c2 := by rw [← hU, ← hBx]; exact opbx_new wr _ _ a1 m1 c1 _ _ a2 m2 c2
      have HCt := Lib.hid (fun wx (hx : Ext U wx) => control_any gg a1 m1 c1 a2 m2 c2 base q wx ((x6.i1.ext hEU).ext hx) hn1')
      have Hrw := Lib.hid (show ∀ wx, Ext U wx → wx.heap[g]? = some (.cells cur 60 (0, 0)) from fun wx hx => ((hEU.trans hx).block g (Array.getElem?_eq_some_iff.1 hrw).1).trans hrw)
      have Hrow := Lib.hid hrow; have Hsep := Lib.hid hsep; have Hx6 := Lib.hid x6; have HEU := Lib.hid hEU
      have Hx2 := Lib.hid x2; have Hx5 := Lib.hid x5
      have HbR := Lib.hid (bR.ext hEU); have HbF := Lib.hid (bF.ext hEU); have HbO' := Lib.hid (bO.ext hEU); have HXU := Lib.hid (hX.trans hEU)
      have HU := Lib.hid hU; have Hg := Lib.hid hg; have Hsz := Lib.hid hsz; have Hk := Lib.hid hk; have HBx := Lib.hid hBx
      have Hnc := Lib.hid hnc; have Hcm := Lib.hid hcm; have Hbg := Lib.hid hbg
      have HsU := Lib.hid (show wr.heap.size < U.heap.size by rw [← hU]; simp)
      have v2 := (bO.ext hEU).x2
      obtain ⟨kd, kk', ctl, qq, bb, cnd⟩ := gg
      simp only at t0 t1 t3 t4 HCt bx HU
      have e0 := bx.x0; have e1 := bx.x1; have e2 := bx.x2; have e3 := bx.x3; have e4 := bx.x4; have e5 := bx.x5
      have nOx : Ob ≠ Bx := by omega
      have sO := Lib.hid hsO
      clear hU hEU bx ce hrow hrw x0 x1 x2 x3 x4 x5 x6 hbl1 hbl2 hg bR bF bO hO hX hl2 hnc hcm hsz hbg hsep hn1' hk
      go_upto_region 19 with fail
      rw [HU.out]
      clear t0 t1 t2 t3 t4 t5
      have hE0d : Ext U U.drew := Below.drew (Ext.refl _)
      refine wp_region_K 7 (fun w' => w'.cell? ⟨Ob, 2, none⟩ = some (.slice (some ⟨g, 0, none⟩) n cv) ∧ w'.cell? ⟨Bx, 0, none⟩ = some (.int .i64 kd) ∧ w'.cell? ⟨Bx, 1, none⟩ = some (.int .i64 kk') ∧ w'.cell? ⟨Bx, 2, none⟩ = some (.slice a1 m1 c1) ∧ w'.cell? ⟨Bx, 3, none⟩ = some (.int .i64 qq) ∧ w'.cell? ⟨Bx, 4, none⟩ = some (.int .i64 bb) ∧ w'.cell? ⟨Bx, 5, none⟩ = some (.slice a2 m2 c2)) (by kernel_rfl) ?_
      show anyK _ _ _ _ _ _ 8 #[false, false, false, false, false, false, false, false] _ _
      have hHeld : U.drew.cell? ⟨Ob, 2, none⟩ = some (.slice (some ⟨g, 0, none⟩) n cv) ∧ U.drew.cell? ⟨Bx, 0, none⟩ = some (.int .i64 kd) ∧ U.drew.cell? ⟨Bx, 1, none⟩ = some (.int .i64 kk') ∧ U.drew.cell? ⟨Bx, 2, none⟩ = some (.slice a1 m1 c1) ∧ U.drew.cell? ⟨Bx, 3, none⟩ = some (.int .i64 qq) ∧ U.drew.cell? ⟨Bx, 4, none⟩ = some (.int .i64 bb) ∧ U.drew.cell? ⟨Bx, 5, none⟩ = some (.slice a2 m2 c2) := ⟨cell_ext v2 hE0d, cell_ext e0 hE0d, cell_ext e1 hE0d, cell_ext e2 hE0d, cell_ext e3 hE0d, cell_ext e4 hE0d, cell_ext e5 hE0d⟩
      refine anyK_take (i := 0) (v := ?_) rfl (by kernel_rfl) (by kernel_rfl) (by kernel_rfl) (N := 8) (by kernel_rfl) (by kernel_rfl) (by kernel_rfl) (fun _ _ _ h => h) (Or.inl ⟨by rfl, ?_⟩) hHeld ?_
      rotate_left 1
      · intro w hSw
        go_simp
        try with_reducible rfl
      show anyK _ _ _ _ _ _ _ _ (Act.put _ (some 61) _) _
      simp only [Act.put, List.setIfInBounds_toArray, List.set_cons_zero, List.set_cons_succ]
      refine anyK_take (i := 1) (v := ?_) rfl (by kernel_rfl) (by kernel_rfl) (by kernel_rfl) (N := 8) (by kernel_rfl) (by kernel_rfl) (by kernel_rfl) (fun _ _ _ h => h) (Or.inl ⟨by rfl, ?_⟩) hHeld ?_
      rotate_left 1
      · intro w hSw
        go_simp
        try with_reducible rfl
      show anyK _ _ _ _ _ _ _ _ (Act.put _ (some 62) _) _
      simp only [Act.put, List.setIfInBounds_toArray, List.set_cons_zero, List.set_cons_succ]
      refine anyK_take (i := 2) (v := ?_) rfl (by kernel_rfl) (by kernel_rfl) (by kernel_rfl) (N := 8) (by kernel_rfl) (by kernel_rfl) (by kernel_rfl) (fun _ _ _ h => h) (Or.inl ⟨by rfl, ?_⟩) hHeld ?_
      rotate_left 1
      · intro w hSw
        go_simp
        try with_reducible rfl
      show anyK _ _ _ _ _ _ _ _ (Act.put _ (some 63) _) _
      simp only [Act.put, List.setIfInBounds_toArray, List.set_cons_zero, List.set_cons_succ]
      refine anyK_take (i := 3) (v := ?_) rfl (by kernel_rfl) (by kernel_rfl) (by kernel_rfl) (N := 8) (by kernel_rfl) (by kernel_rfl) (by kernel_rfl) (fun _ _ _ h => h) (Or.inl ⟨by rfl, ?_⟩) hHeld ?_
      rotate_left 1
      · intro w hSw
        go_simp
        try with_reducible rfl
      show anyK _ _ _ _ _ _ _ _ (Act.put _ (some 64) _) _
      simp only [Act.put, List.setIfInBounds_toArray, List.set_cons_zero, List.set_cons_succ]
      refine anyK_take (i := 4) (v := ?_) rfl (by kernel_rfl) (by kernel_rfl) (by kernel_rfl) (N := 8) (by kernel_rfl) (by kernel_rfl) (by kernel_rfl) (fun _ _ _ h => h) (Or.inl ⟨by rfl, ?_⟩) hHeld ?_
      rotate_left 1
      · intro w hSw
        go_simp
        try with_reducible rfl
      show anyK _ _ _ _ _ _ _ _ (Act.put _ (some 65) _) _
      simp only [Act.put, List.setIfInBounds_toArray, List.set_cons_zero, List.set_cons_succ]
      clear hHeld
      refine anyK_one (i := 5) (by kernel_rfl) rfl (fun Kk hKk => ?_)
      go_simp
      (go_at_call 48; refine (HCt.out _ hE0d).mono ?_; rintro e w4 ⟨hres, hx4⟩)
      have he4 : Ext U w4 := hE0d.trans hx4
      obtain ⟨y0, y1, b1, n1', d1, y3, y4, b2, n2', d2, rfl, hgn, _, hfr, hsm⟩ : ∃ (y0 y1 : Int) (b1 : Option Addr) (n1' d1 : Nat) (y3 y4 : Int) (b2 : Option Addr) (n2' d2 : Nat), e = .returned (.agg #[.int .i64 y0, .int .i64 y1, .slice b1 n1' d1, .int .i64 y3, .int .i64 y4, .slice b2 n2' d2]) ∧ (∃ l1 l2, ctrO q ⟨kd, kk', ctl, qq, bb, cnd⟩ = ⟨y0, y1, l1, y3, y4, l2⟩ ∧ OpN w4 base ⟨y0, y1, l1, y3, y4, l2⟩ b1 n1' d1 b2 n2' d2) ∧ True ∧ (∀ k, (Value.slice b1 n1' d1).ownBlock = some k → U.heap.size ≤ k) ∧ (∀ k, (Value.slice b2 n2' d2).ownBlock = some k → (Value.slice a2 m2 c2).ownBlock = some k) := by
        rcases hres with ⟨hk1, rfl⟩ | ⟨hk1, a7, m7, c7, rfl, hI⟩
        · exact ⟨4, kk', none, 0, 0, q, 0, none, 0, 0, rfl, ⟨[], [], ctrO_1 q hk1, ⟨io_nil _ _, io_nil _ _, fun k h => by simp [Value.ownBlock] at h⟩⟩, trivial, fun k h => by simp [Value.ownBlock] at h, fun k h => by simp [Value.ownBlock] at h⟩
        · have hfr : ∀ k, (Value.slice a7 m7 c7).ownBlock = some k → U.heap.size ≤ k := fun k h => (hI.lt k h).1
          have hold : ∀ k, (Value.slice a2 m2 c2).ownBlock = some k → k < U.heap.size := fun k h => Nat.lt_trans ((Hx6.out.i2.lt k h).2) HsU.out
          have hbU : base ≤ U.heap.size := by have h1 := (HOlt.out g rfl).2; have h2 := sO.out; have h3 := HsU.out; have h4 := Hbg.out; omega
          exact ⟨kd, kk', a7, m7, c7, qq, bb, a2, m2, c2, rfl, ⟨q :: ctl, cnd, ctrO_2 q hk1, ⟨hI.down hbU, (Hx6.out.i2.ext HEU.out).ext he4, fun k h1 h2 => by have := hfr k h1; have := hold k h2; omega⟩⟩, trivial, hfr, fun k h => h⟩
      obtain ⟨l1, l2, hgn, hON⟩ := hgn
      go_wp2_with fail
      refine hKk.out _ _ (fun _ => ⟨cell_ext v2 he4, cell_ext e0 he4, cell_ext e1 he4, cell_ext e2 he4, cell_ext e3 he4, cell_ext e4 he4, cell_ext e5 he4⟩) ?_
      clear hKk Kk
      simp only [List.setIfInBounds_toArray, List.set_cons_zero, List.set_cons_succ]
      have hHeld : w4.cell? ⟨Ob, 2, none⟩ = some (.slice (some ⟨g, 0, none⟩) n cv) ∧ w4.cell? ⟨Bx, 0, none⟩ = some (.int .i64 kd) ∧ w4.cell? ⟨Bx, 1, none⟩ = some (.int .i64 kk') ∧ w4.cell? ⟨Bx, 2, none⟩ = some (.slice a1 m1 c1) ∧ w4.cell? ⟨Bx, 3, none⟩ = some (.int .i64 qq) ∧ w4.cell? ⟨Bx, 4, none⟩ = some (.int .i64 bb) ∧ w4.cell? ⟨Bx, 5, none⟩ = some (.slice a2 m2 c2) := ⟨cell_ext v2 he4, cell_ext e0 he4, cell_ext e1 he4, cell_ext e2 he4, cell_ext e3 he4, cell_ext e4 he4, cell_ext e5 he4⟩
      refine anyK_take (i := 6) (v := ?_) rfl (by kernel_rfl) (by kernel_rfl) (by kernel_rfl) (N := 8) (by kernel_rfl) (by kernel_rfl) (by kernel_rfl) (fun _ _ _ h => h) (Or.inl ⟨by rfl, ?_⟩) hHeld ?_
      rotate_left 1
      · intro w hSw
        go_simp
        try with_reducible rfl
      show anyK _ _ _ _ _ _ _ _ (Act.put _ (some 67) _) _
      simp only [Act.put, List.setIfInBounds_toArray, List.set_cons_zero, List.set_cons_succ]
      clear hHeld
      have hrw4 := Hrw.out w4 he4
      have ce4 : ∀ (k : Nat) (v : Value), cur[k]? = some v → w4.cell? ⟨g, k, none⟩ = some v := fun k v e => by rw [cell_of_row w4 g k cur _ (0, 0) hrw4]; exact e
      have hlt6 : ∀ j, j < n * 6 → ∃ v, cur[j]? = some v := fun j hj => ⟨cur[j]'(by rw [Hsz.out]; have := Hnc.out; omega), Array.getElem?_eq_getElem _⟩
      obtain ⟨z0, hz0⟩ := hlt6 (i * 6) (by omega)
      obtain ⟨z1, hz1⟩ := hlt6 (i * 6 + 1) (by omega)
      obtain ⟨z2, hz2⟩ := hlt6 (i * 6 + 2) (by omega)
      obtain ⟨z3, hz3⟩ := hlt6 (i * 6 + 3) (by omega)
      obtain ⟨z4, hz4⟩ := hlt6 (i * 6 + 4) (by omega)
      obtain ⟨z5, hz5⟩ := hlt6 (i * 6 + 5) (by omega)
      refine anyK_one (i := 7) (by kernel_rfl) rfl (fun Kk hKk => ?_)
      refine stepK_storeO rfl rfl _ _ rfl g (i * 6) y0 y1 b1 n1' d1 y3 y4 b2 n2' d2 z0 z1 z2 z3 z4 z5 rfl rfl (ce4 _ _ hz0) (ce4 _ _ hz1) (ce4 _ _ hz2) (ce4 _ _ hz3) (ce4 _ _ hz4) (ce4 _ _ hz5) (fun k => frozen_of_row w4 g k _ _ hrw4) ?_
      refine hKk.out _ _ (fun h => Bool.noConfusion (show true = false from h)) ?_
      clear hKk Kk
      simp only [List.setIfInBounds_toArray, List.set_cons_zero, List.set_cons_succ]
      refine anyK_done (by kernel_rfl) ?_ _
      obtain ⟨W8, hW8⟩ : ∃ W8, putAt w4 g (i * 6) (opF ⟨y0, y1, l1, y3, y4, l2⟩ b1 n1' d1 b2 n2' d2) = W8 := ⟨_, rfl⟩
      have hO8 := putAt_only w4 g (i * 6) (opF ⟨y0, y1, l1, y3, y4, l2⟩ b1 n1' d1 b2 n2' d2)
      have hr8 := putAt_row (p := i * 6) (opF ⟨y0, y1, l1, y3, y4, l2⟩ b1 n1' d1 b2 n2' d2) hrw4
      rw [hW8] at hO8 hr8
      have hki := only_ints hrw4 (by decide) hO8
      have hrow4 : RowF w4 base (fun p => cur[p]?) (mapF (ctrO q) ops i) := Hrow.out.map (fun _ _ _ _ _ _ _ o => (o.ext HEU.out).ext he4)
      have hrow8 := rowF_set (w' := W8) Hl.out (by omega) (by rw [Hsz.out]; have := Hnc.out; omega) hrow4 Hg.out hgn (fun t x _ _ _ _ _ _ _ _ _ _ o => o.keep hki) (hON.keep hki)
      have hbl : ∀ p u k, p < n * 6 → cur[p]? = some u → u.ownBlock = some k → k < U.heap.size := fun p u k hp hu hk => Nat.lt_trans (Hrow.out.blocks (by rw [mapF_len, Hl.out]; exact hp) hu hk).2.1 HsU.out
      have hsep8 := sepF_set (g' := ⟨y0, y1, l1, y3, y4, l2⟩) (b1 := b1) (m1 := n1') (d1 := d1) (b2 := b2) (m2 := n2') (d2 := d2) (show i < n by omega) (by rw [Hsz.out]; have := Hnc.out; omega) Hsep.out (fun k p u hk hp _ hu he => by have h1 := hfr k hk; have h2 := hbl p u k hp hu he; omega) (fun k p u hk hp hpi hu he => by
        have h1 := Hsep.out p (i * 6 + 5) k u _ hp (by omega) hu Hx5.out he (hsm k hk)
        omega) hON.ne
      have Hown8 := Lib.hid (opsN_close (base := base) (n := n) (c := cv) (by rw [mapF_len]; exact Hl.out) Hbg.out hr8 Hnc.out Hcm.out (by rw [set6_size]; exact Hsz.out) hsep8 hrow8)
      have gOb := (HOlt.out g rfl).2
      have gb := Hbb.out
      have gbg := Hbg.out
      have HR8 := Lib.hid ((HbR.out.ext he4).kept hO8 (by omega)); have HF8 := Lib.hid ((HbF.out.ext he4).kept hO8 (by omega)); have HO8 := Lib.hid ((HbO'.out.ext he4).kept hO8 (by omega))
      have HX8 := Lib.hid (ext_only (HXU.out.trans he4) hO8 (by omega))
      have Hs8 := Lib.hid (show Ob < W8.heap.size by rw [hO8.size]; have h1 := he4.size; have h2 := sO.out; have h3 := HsU.out; omega)
      have HW8 := Lib.hid (show ((((((w4.setCell ⟨g, i * 6, none⟩ (.int .i64 y0)).setCell ⟨g, i * 6 + 1, none⟩ (.int .i64 y1)).setCell ⟨g, i * 6 + 2, none⟩ (.slice b1 n1' d1)).setCell ⟨g, i * 6 + 3, none⟩ (.int .i64 y3)).setCell ⟨g, i * 6 + 4, none⟩ (.int .i64 y4)).setCell ⟨g, i * 6 + 5, none⟩ (.slice b2 n2' d2)) = W8 from hW8)
      clear hW8 hO8 hr8 hki hrow4 hrow8 hbl hsep8 hrw4 ce4 hlt6 hz0 hz1 hz2 hz3 hz4 hz5 hON hgn hfr hsm hx4 he4 hE0d v2 e0 e1 e2 e3 e4 e5 gOb gb gbg
      rw [HW8.out]
      go_wp2_with fail
      go_roundg (n - (i + 1))
      case measure => have := Hk.out; omega
      case rel => exact ⟨i + 1, by go_num, by omega, rfl, HR8.out, HF8.out, HO8.out, Hown8.out, HX8.out, Hs8.out⟩

end Go.Proofs.YtfjnlopbmkimiaaGreatDoor
namespace Go.Proofs.YtfjnlopbmkimiaaGreatDoor
open Go.RowKit

theorem al2 (w : World) (A B : Array Value) (tA tB : TypeId) : ((w.alloc (.cells A tA)).alloc (.cells B tB)).heap[w.heap.size]? = some (.cells A tA (0, 0)) ∧ ((w.alloc (.cells A tA)).alloc (.cells B tB)).heap[w.heap.size + 1]? = some (.cells B tB (0, 0)) ∧ Ext w ((w.alloc (.cells A tA)).alloc (.cells B tB)) := by
  have h1 := heap_alloc_new w (.cells A tA)
  have h2 := heap_alloc_new (w.alloc (.cells A tA)) (.cells B tB)
  rw [World.size_alloc] at h2
  exact ⟨((ext_al _ _).block _ (Array.getElem?_eq_some_iff.1 h1).1).trans h1, h2, (ext_al _ _).trans (ext_al _ _)⟩
theorem TxR.kept {w w' : World} {g n k : Nat} {s : Nat → Nm} {u v : Int} (h : TxR w g n s) (hf : FtB w k u v) (hO : Only k w w') : TxR w' g n s := by
  have hne : g ≠ k := by
    rintro rfl
    have h1 := hf.row
    unfold TxR at h
    rw [h] at h1
    injection h1 with h1
    injection h1 with _ h1 _
    exact absurd h1 (by decide)
  exact (hO.block g hne).trans h
theorem row_kept {w w' : World} {g k : Nat} {cs : Array Value} {t : TypeId} {fr : Nat × Nat} (h : w.heap[g]? = some (.cells cs t fr)) (hO : Only k w w') (hne : g ≠ k) : w'.heap[g]? = some (.cells cs t fr) := (hO.block g hne).trans h

set_option maxRecDepth 100000 in
set_option maxHeartbeats 8000000 in
theorem undoes_walk (c : Gci) (ao : Option Addr) (n cp : Nat) (q x : Int) (w : World) (h : OpsAt w ao n c.ops) (hn : n ≤ cp) (hcp : cp ≤ 9223372036854775807) (hna : ao = none → cp = 0) (hS : Shp w) (hbr : Bru w) (hT : Ten w) :
    Calls Tryz.prog 4 #[.agg #[.int .i64 c.qubits, .int .i64 c.bits, .slice ao n cp], .int .i64 q, .int .i64 x] w fun e w' => e = .returned (.bool true) ∧ Ext w w' := by
  obtain ⟨I, hI⟩ : ∃ I, invM c = I := ⟨_, rfl⟩
  have HSt := Lib.hid (fun wx (hx : Ext w wx) => stateBegun_any wx (hS.ext hx) (bru_ext hbr hx) (tab_ext hT hx))
  have HIn := Lib.hid (fun wx (hx : Ext w wx) => Inverse_U c ao n cp wx (h.ext hx) hn hcp (hS.ext hx))
  have HPu := Lib.hid (fun wx (hx : Ext w wx) => Pure_any c ao n cp wx (h.ext hx) hn hcp (hS.ext hx))
  have HTh := Lib.hid (fun wx (hx : Ext w wx) (d : Gci) bo m cq (hd : OpsAt wx bo m d.ops) (h1 : m ≤ cq) (h2 : cq ≤ 9223372036854775807) (h3 : bo = none → cq = 0) => Then_U c d ao n cp bo m cq wx (h.ext hx) hd hn hcp h1 h2 hna h3 (hS.ext hx))
  have HCo := Lib.hid (fun wx (hx : Ext w wx) => Control_U c ao n cp q wx (h.ext hx) hn hcp (hS.ext hx))
  have HRu := Lib.hid (fun wx (hx : Ext w wx) (d : Gci) bo m cq (hd : OpsAt wx bo m d.ops) (h1 : m ≤ cq) (h2 : cq ≤ 9223372036854775807) => Run_any d bo m cq x none 0 0 [] wx hd h1 h2 ⟨rfl, Or.inl rfl⟩ (hS.ext hx) (bru_ext hbr hx) (tab_ext hT hx))
  have HO := Lib.hid h; have Hn := Lib.hid hn; have Hcp := Lib.hid hcp
  rw [hI] at HIn
  have HIe := Lib.hid hI
  obtain ⟨qb, bi, ops⟩ := c
  obtain ⟨⟨f0, f1⟩, ⟨iq, ib, iops⟩⟩ := I
  simp only at HIn HPu HTh HCo HO
  obtain ⟨H, hH⟩ : ∃ H, w.heap.size = H := ⟨_, rfl⟩
  obtain ⟨W0, hW0⟩ : ∃ W0, w.alloc (.cells #[.int .i64 qb, .int .i64 bi, .slice ao n cp] 24) = W0 := ⟨_, rfl⟩
  have E0 : Ext w W0 := by rw [← hW0]; exact ext_al w _
  have HC := Lib.hid (show CiB W0 H qb bi ao n cp by rw [← hW0, ← hH]; exact ⟨heap_alloc_new w _⟩)
  have HE0 := Lib.hid E0; have HH := Lib.hid hH; have HW := Lib.hid hW0; have HwH := Lib.hid (show w.heap.size ≤ H by omega)
  clear h hn hcp hna hS hbr hT hI E0 hH hW0
  go_enter Tryz.func4, Tryz.ntmps4
  go_upto_region 1 with fail
  rw [HW.out, HH.out]
  go_wp2_with fail
  refine (HSt.out W0 HE0.out).mono ?_
  rintro e w1 ⟨rfl, hx1⟩
  have HE1 := Lib.hid (HE0.out.trans hx1); have HC1 := Lib.hid (HC.out.ext hx1)
  clear hx1 HSt HW HH HC HE0
  have m0 := HC1.out.x0; have m1 := HC1.out.x1; have m2 := HC1.out.x2
  go_wp2_with fail
  refine (HIn.out w1 HE1.out).mono ?_
  rintro e w2 ⟨⟨a2, n2, c2, rfl, hO2⟩, hx2⟩
  simp only at hO2 ⊢
  obtain ⟨r7, r8, E3⟩ := al2 w2 #[.int .i64 iq, .int .i64 ib, .slice a2 n2 c2] #[.int .i64 f0, .int .i64 f1] 24 31
  have HE3 := Lib.hid (HE1.out.trans (hx2.trans E3)); have HC3 := Lib.hid (HC1.out.ext (hx2.trans E3)); have HO3 := Lib.hid (hO2.ext E3)
  have HB3 := Lib.hid (show CiB _ w2.heap.size iq ib a2 n2 c2 from ⟨r7⟩); have HF3 := Lib.hid (show FtB _ (w2.heap.size + 1) f0 f1 from ⟨r8⟩)
  have HK := Lib.hid (show H < w2.heap.size by have := HC1.out.lt; have := hx2.size; omega)
  clear hO2 hx2 r7 r8 E3 HC1 HE1 HIn m0 m1 m2
  go_upto_region 4 with fail
  generalize (w2.alloc (.cells #[.int .i64 iq, .int .i64 ib, .slice a2 n2 c2] 24)).alloc (.cells #[.int .i64 f0, .int .i64 f1] 31) = V3 at *
  generalize w2.heap.size = K at *
  have p0 := HF3.out.x0; have p1 := HF3.out.x1; have l0 := HC3.out.x0; have l1 := HC3.out.x1; have l2 := HC3.out.x2
  by_cases hp : (pur ⟨qb, bi, ops⟩).1 ≠ 0
  · have Hf := Lib.hid (show f0 = (pur ⟨qb, bi, ops⟩).1 ∧ f1 = (pur ⟨qb, bi, ops⟩).2 by
      have := HIe.out
      unfold invM at this
      rw [if_pos hp] at this
      injection this with h1 _
      exact ⟨(congrArg Prod.fst h1).symm, (congrArg Prod.snd h1).symm⟩)
    have hcb : (f0 != 0) = true := by rw [Hf.out.1]; simpa using hp
    clear hp
    go_upto_region 5 with fail
    have d0 : Ext V3 V3.drew := Below.drew (Ext.refl _)
    have lK := HF3.out.lt; have lH := HC3.out.lt
    refine wp_region_any (by kernel_rfl) (anyT_plain (k := 99) (S := fun w' => True) (T := fun w' => (w'.cell? ⟨K + 1, 0, none⟩ = some (.int .i64 f0) ∧ w'.cell? ⟨K + 1, 1, none⟩ = some (.int .i64 f1)) ∧ (w'.cell? ⟨H, 0, none⟩ = some (.int .i64 qb) ∧ w'.cell? ⟨H, 1, none⟩ = some (.int .i64 bi)) ∧ w'.cell? ⟨H, 2, none⟩ = some (.slice ao n cp)) _ _ _ _ ?_)
    show anyT _ _ _ _ _ _ _ 5 #[false, false, false, false, false] _ _
    have hT : (V3.drew.cell? ⟨K + 1, 0, none⟩ = some (.int .i64 f0) ∧ V3.drew.cell? ⟨K + 1, 1, none⟩ = some (.int .i64 f1)) ∧ (V3.drew.cell? ⟨H, 0, none⟩ = some (.int .i64 qb) ∧ V3.drew.cell? ⟨H, 1, none⟩ = some (.int .i64 bi)) ∧ V3.drew.cell? ⟨H, 2, none⟩ = some (.slice ao n cp) := ⟨⟨cellKeep d0 lK p0, cellKeep d0 lK p1⟩, ⟨cellKeep d0 lH l0, cellKeep d0 lH l1⟩, cellKeep d0 lH l2⟩
    have hHeld : True := trivial
    refine anyT_takeT (i := 0) (v := ?_) rfl (by decide) (by kernel_rfl) (by kernel_rfl) (by kernel_rfl) (fun _ _ _ h => h) (Or.inl ⟨by rfl, ?_⟩) hT (fun _ => hHeld) ?_
    rotate_left 1
    · intro w hSw
      go_simp
      try with_reducible rfl
    show anyT _ _ _ _ _ _ _ _ _ (Act.put _ (some 26) _) _
    simp only [Act.put, List.setIfInBounds_toArray, List.set_cons_zero, List.set_cons_succ]
    refine anyT_takeT (i := 1) (v := ?_) rfl (by decide) (by kernel_rfl) (by kernel_rfl) (by kernel_rfl) (fun _ _ _ h => h) (Or.inl ⟨by rfl, ?_⟩) hT (fun _ => hHeld) ?_
    rotate_left 1
    · intro w hSw
      go_simp
      try with_reducible rfl
    show anyT _ _ _ _ _ _ _ _ _ (Act.put _ (some 27) _) _
    simp only [Act.put, List.setIfInBounds_toArray, List.set_cons_zero, List.set_cons_succ]
    clear hT hHeld
    refine anyT_one (i := 2) (by kernel_rfl) rfl (fun Kk hKk => ?_)
    go_simp
    have HP := Lib.hid (HPu.out V3.drew (HE3.out.trans d0))
    rw [← Hf.out.1, ← Hf.out.2] at HP
    (go_at_call 17; refine HP.out.mono ?_; rintro e w4 ⟨rfl, hx4⟩)
    have he := d0.trans hx4
    go_wp2_with fail
    refine hKk.out _ _ (⟨⟨cellKeep he lK p0, cellKeep he lK p1⟩, ⟨cellKeep he lH l0, cellKeep he lH l1⟩, cellKeep he lH l2⟩) (fun _ => trivial) ?_
    clear hKk Kk
    simp only [List.setIfInBounds_toArray, List.set_cons_zero, List.set_cons_succ]
    have hT : (w4.cell? ⟨K + 1, 0, none⟩ = some (.int .i64 f0) ∧ w4.cell? ⟨K + 1, 1, none⟩ = some (.int .i64 f1)) ∧ (w4.cell? ⟨H, 0, none⟩ = some (.int .i64 qb) ∧ w4.cell? ⟨H, 1, none⟩ = some (.int .i64 bi)) ∧ w4.cell? ⟨H, 2, none⟩ = some (.slice ao n cp) := ⟨⟨cellKeep he lK p0, cellKeep he lK p1⟩, ⟨cellKeep he lH l0, cellKeep he lH l1⟩, cellKeep he lH l2⟩
    have hHeld : True := trivial
    refine anyT_takeT (i := 3) (v := .bool true) rfl (by decide) (by kernel_rfl) (by kernel_rfl) (by kernel_rfl) (fun _ _ _ h => h) (Or.inl ⟨by rfl, fun w hSw => by go_simp⟩) hT (fun _ => hHeld) ?_
    show anyT _ _ _ _ _ _ _ _ _ (Act.put _ (some 29) _) _
    simp only [Act.put, List.setIfInBounds_toArray, List.set_cons_zero, List.set_cons_succ]
    refine anyT_takeT (i := 4) (v := ?_) rfl (by decide) (by kernel_rfl) (by kernel_rfl) (by kernel_rfl) (fun _ _ _ h => h) (Or.inl ⟨by rfl, ?_⟩) hT (fun _ => hHeld) ?_
    rotate_left 1
    · intro w hSw
      go_simp
      try with_reducible rfl
    show anyT _ _ _ _ _ _ _ _ _ (Act.put _ (some 6) _) _
    simp only [Act.put, List.setIfInBounds_toArray, List.set_cons_zero, List.set_cons_succ]
    refine anyT_done (by kernel_rfl) ?_ _
    have HEnd := Lib.hid (HE3.out.trans he)
    clear hT hHeld he hx4 d0 lK lH
    go_wp2_with fail
    go_ret
    exact ⟨rfl, HEnd.out⟩
  · have hp0 : (pur ⟨qb, bi, ops⟩).1 = 0 := by omega
    have hPur := pur_iff.1 hp0
    have Hi := Lib.hid (show f0 = 0 ∧ iq = qb ∧ ib = bi ∧ iops = invO ops by
      have := HIe.out
      unfold invM at this
      rw [if_neg hp] at this
      injection this with h1 h2
      injection h2 with h2 h3 h4
      exact ⟨(congrArg Prod.fst h1).symm, h2.symm, h3.symm, h4.symm⟩)
    have hcb := nf' Hi.out.1
    obtain ⟨qn, rfl⟩ : ∃ qn : Nat, qb = (qn : Int) := ⟨qb.toNat, by have := hPur.q; omega⟩
    have HPur := Lib.hid hPur
    obtain ⟨t, ht⟩ : ∃ t : Nat, 2 ^ qn = t := ⟨_, rfl⟩
    have hs := shl1 (q := qn) (by have := hPur.q; omega)
    rw [ht] at hs
    have Ht := Lib.hid ht
    have Ht4 := Lib.hid (show t ≤ 4096 by rw [← ht]; exact Nat.le_trans (Nat.pow_le_pow_right (by decide) (show qn ≤ 12 by have := hPur.q; omega)) (by decide))
    have qz : (0 : Int) ≤ (qn : Int) := by omega
    obtain ⟨R, hR⟩ : ∃ R, thnM ⟨(qn : Int), bi, ops⟩ ⟨iq, ib, iops⟩ = R := ⟨_, rfl⟩
    obtain ⟨⟨g0, g1⟩, ⟨tq, tb, tops⟩⟩ := R
    obtain ⟨hi1, hi2, hi3, hi4⟩ := HO3.out.at
    have HT3 := Lib.hid (HTh.out V3 HE3.out ⟨iq, ib, iops⟩ a2 n2 c2 hi4 hi2 hi3 HO3.out.nil_cap)
    rw [hR] at HT3
    simp only at HT3
    have HRe := Lib.hid (show g0 = 0 → tq = (qn : Int) ∧ tb = bi ∧ tops = ops ++ invO ops ∧ Pur (qn : Int) bi tops by
      intro hg
      unfold thnM at hR
      by_cases hf : (thnF ⟨(qn : Int), bi, ops⟩ ⟨iq, ib, iops⟩).1 = 0
      · rw [if_neg (by simp [hf])] at hR
        injection hR with _ h2
        injection h2 with h2 h3 h4
        obtain ⟨_, _, _, _, h5⟩ := thnF_zero hf
        obtain ⟨_, e1, e2, e3⟩ := Hi.out
        subst e3
        refine ⟨h2.symm, h3.symm, h4.symm, ?_⟩
        rw [← h4]
        exact HPur.out.app HPur.out.inv h5
      · rw [if_pos hf] at hR
        injection hR with h1 _
        exact absurd ((congrArg Prod.fst h1).trans hg) hf)
    have b0 := HB3.out.x0; have b1 := HB3.out.x1; have b2 := HB3.out.x2
    clear hp hp0 hPur ht hR hi1 hi2 hi3 hi4 HTh HPu HIe
    go_wp2_with fail
    refine HT3.out.mono ?_
    rintro e w4 ⟨⟨a4, n4, c4, rfl, hO4⟩, hx4⟩
    simp only at hO4 ⊢
    obtain ⟨r9, r10, E5⟩ := al2 w4 #[.int .i64 tq, .int .i64 tb, .slice a4 n4 c4] #[.int .i64 g0, .int .i64 g1] 24 31
    have HE5 := Lib.hid (HE3.out.trans (hx4.trans E5)); have HC5 := Lib.hid (HC3.out.ext (hx4.trans E5)); have HO5 := Lib.hid (hO4.ext E5)
    have HF5 := Lib.hid (HF3.out.ext (hx4.trans E5))
    have HB5 := Lib.hid (show CiB _ w4.heap.size tq tb a4 n4 c4 from ⟨r9⟩); have HG5 := Lib.hid (show FtB _ (w4.heap.size + 1) g0 g1 from ⟨r10⟩)
    clear hO4 hx4 r9 r10 E5 HC3 HE3 HO3 HF3 HB3 HT3 p0 p1 l0 l1 l2 b0 b1 b2
    go_upto_region 7 with fail
    generalize (w4.alloc (.cells #[.int .i64 tq, .int .i64 tb, .slice a4 n4 c4] 24)).alloc (.cells #[.int .i64 g0, .int .i64 g1] 31) = V5 at *
    generalize w4.heap.size = K9 at *
    have l0 := HC5.out.x0; have p0 := HG5.out.x0
    obtain ⟨Bq, hBq⟩ : ∃ Bq : Bool, decide (g0 = 0 ∧ 0 ≤ x ∧ x < (t : Int)) = Bq := ⟨_, rfl⟩
    have HBq := Lib.hid hBq
    clear hBq
    go_cut [49] from 36 to 49 (fun s49 wx => wx = V5 ∧ s49 = .bool Bq)
    case first =>
      by_cases hg : g0 = 0
      · have e0 : (g0 == 0) = true := by simp [hg]
        by_cases hx0 : 0 ≤ x
        · by_cases hxt : x < (t : Int)
          · have hB : Bq = true := by rw [← HBq.out]; simp [hg, hx0, hxt]
            subst hB
            clear hg
            go_wp2_with fail
            go_meet
            exact ⟨rfl, rfl⟩
          · have hB : Bq = false := by rw [← HBq.out]; simp [hxt]
            subst hB
            clear hg
            go_wp2_with fail
            go_meet
            exact ⟨rfl, rfl⟩
        · have hB : Bq = false := by rw [← HBq.out]; simp [hx0]
          subst hB
          clear hg
          go_wp2_with fail
          go_meet
          exact ⟨rfl, rfl⟩
      · have e0 : (g0 == 0) = false := by simp [hg]
        have hB : Bq = false := by rw [← HBq.out]; simp [hg]
        subst hB
        clear hg
        go_wp2_with fail
        go_meet
        exact ⟨rfl, rfl⟩
    case rest =>
    obtain ⟨hw5, rfl⟩ := hcut
    have hw5 := hw5.symm
    subst hw5
    clear l0 p0
    go_upto_if 49 with fail
    go_cut [11, 12] from 49 to 65 (fun s11 s12 wx => Ext w wx ∧ CiB wx H (qn : Int) bi ao n cp ∧ ∃ u v, FtB wx (K + 1) u v)
    case first =>
      cases Bq with
      | false =>
        clear HBq
        go_wp2_with fail
        go_meet
        exact ⟨HE5.out, HC5.out, f0, f1, HF5.out⟩
      | true =>
        obtain ⟨hg, hx0, hxt⟩ : g0 = 0 ∧ 0 ≤ x ∧ x < (t : Int) := by
          have := HBq.out
          simpa using this
        obtain ⟨xn, rfl⟩ : ∃ xn : Nat, x = (xn : Int) := ⟨x.toNat, by omega⟩
        obtain ⟨e1, e2, e3, hpu⟩ := HRe.out hg
        have e2 := e2.symm
        subst e1; subst e2; subst e3
        obtain ⟨hr1, hr2⟩ := hpu.run (x := (xn : Int)) (by omega) (by rw [Int.toNat_natCast, Ht.out]; exact hxt)
        obtain ⟨hi1, hi2, hi3, hi4⟩ := HO5.out.at
        have HR5 := Lib.hid (HRu.out V5 HE5.out ⟨(qn : Int), bi, ops ++ invO ops⟩ a4 n4 c4 hi4 hi2 hi3)
        rw [hr1, hr2] at HR5
        simp only [Int.toNat_natCast, Ht.out] at HR5
        rw [HPur.out.undone xn] at HR5
        have Hxt := Lib.hid (show xn < t by omega)
        have b0 := HB5.out.x0; have b1 := HB5.out.x1; have b2 := HB5.out.x2
        clear hg hx0 hxt hpu hr1 hr2 hi1 hi2 hi3 hi4 HBq HRe HRu
        go_wp2_with fail
        refine HR5.out.mono ?_
        rintro e w6 ⟨cs, rfl, hx6, hsh, _⟩
        obtain ⟨g, bb, rfl, hg, _⟩ := hsh (by trivial)
        simp only at hg
        obtain ⟨r11, r12, E7⟩ := al2 w6 #[.slice (some ⟨g, 0, none⟩) t t, .slice (some ⟨bb, 0, none⟩) (List.replicate bi.toNat (0 : Int)).length (List.replicate bi.toNat (0 : Int)).length, .int .i64 ((0 : Nat) : Int)] #[.int .i64 0, .int .i64 0] 29 31
        have hTx : TxR _ g t (bas xn) := TxR.ext hg E7
        have HOn := Lib.hid (only_any (bas xn) g t t xn _ hTx Ht4.out Hxt.out (fun _ _ => rfl))
        have HEq := Lib.hid (HE5.out.trans (hx6.trans E7)); have HCq := Lib.hid (HC5.out.ext (hx6.trans E7)); have HFq := Lib.hid (HF5.out.ext (hx6.trans E7))
        have s0 : ((w6.alloc (.cells #[.slice (some ⟨g, 0, none⟩) t t, .slice (some ⟨bb, 0, none⟩) (List.replicate bi.toNat (0 : Int)).length (List.replicate bi.toNat (0 : Int)).length, .int .i64 ((0 : Nat) : Int)] 29)).alloc (.cells #[.int .i64 0, .int .i64 0] 31)).cell? ⟨w6.heap.size, 0, none⟩ = some (.slice (some ⟨g, 0, none⟩) t t) := by rw [cell_of_row _ _ 0 _ _ (0, 0) r11]; rfl
        have s1 : ((w6.alloc (.cells #[.slice (some ⟨g, 0, none⟩) t t, .slice (some ⟨bb, 0, none⟩) (List.replicate bi.toNat (0 : Int)).length (List.replicate bi.toNat (0 : Int)).length, .int .i64 ((0 : Nat) : Int)] 29)).alloc (.cells #[.int .i64 0, .int .i64 0] 31)).cell? ⟨w6.heap.size + 1, 0, none⟩ = some (.int .i64 0) := by rw [cell_of_row _ _ 0 _ _ (0, 0) r12]; rfl
        obtain ⟨Ln, hLn⟩ : ∃ Ln, (List.replicate bi.toNat (0 : Int)).length = Ln := ⟨_, rfl⟩
        rw [hLn] at s0 s1 HOn HEq HCq HFq ⊢
        clear hsh hg hx6 r11 r12 E7 hTx HR5 hLn b0 b1 b2 HE5 HC5 HF5 HB5 HG5 HO5
        go_upto_region 9 with fail
        generalize (w6.alloc (.cells #[.slice (some ⟨g, 0, none⟩) t t, .slice (some ⟨bb, 0, none⟩) Ln Ln, .int .i64 ((0 : Nat) : Int)] 29)).alloc (.cells #[.int .i64 0, .int .i64 0] 31) = V7 at *
        generalize w6.heap.size = K11 at *
        go_wp2_with fail
        refine HOn.out.mono ?_
        rintro e w8 ⟨rfl, rfl⟩
        go_wp2_with fail
        go_meet
        exact ⟨HEq.out, HCq.out, f0, f1, HFq.out⟩
    case rest =>
    obtain ⟨hE9, hC9, u9, v9, hF9⟩ := hcut
    have HE9 := Lib.hid hE9; have HC9 := Lib.hid hC9; have HF9 := Lib.hid hF9
    clear hE9 hC9 hF9 HE5 HC5 HF5 HB5 HG5 HO5 HBq HRe
    obtain ⟨Dm, hDm⟩ : ∃ Dm, ctrM ⟨(qn : Int), bi, ops⟩ q = Dm := ⟨_, rfl⟩
    obtain ⟨⟨d0, d1⟩, ⟨dq, db, dops⟩⟩ := Dm
    have HDe := Lib.hid (show d0 = 0 → dq = (qn : Int) ∧ db = bi ∧ dops = ops.map (ctrO q) ∧ 0 ≤ q ∧ q < (qn : Int) ∧ (clnF q 0 ops).1 = 0 by
      intro hd
      have hDm2 := hDm
      unfold ctrM at hDm2
      by_cases hf : (ctrF ⟨(qn : Int), bi, ops⟩ q).1 = 0
      · rw [if_neg (by simp [hf])] at hDm2
        injection hDm2 with _ h2
        injection h2 with h2 h3 h4
        have hpu := (pur_iff (qb := (qn : Int)) (bi := bi) (ops := ops)).2 HPur.out
        unfold ctrF at hf
        rw [HPur.out.chk, if_neg (by decide)] at hf
        by_cases hq : q < 0 ∨ (qn : Int) ≤ q
        · rw [if_pos hq] at hf; exact absurd hf (by decide)
        · rw [if_neg hq, if_neg (by simp [hpu])] at hf
          exact ⟨h2.symm, h3.symm, h4.symm, by omega, by omega, hf⟩
      · rw [if_pos hf] at hDm2
        injection hDm2 with h1 _
        exact absurd ((congrArg Prod.fst h1).trans hd) hf)
    have HCt := Lib.hid (HCo.out wc HE9.out)
    rw [hDm] at HCt
    have l0 := HC9.out.x0; have l1 := HC9.out.x1; have l2 := HC9.out.x2
    clear hDm HCo
    go_wp2_with fail
    refine HCt.out.mono ?_
    rintro e wd ⟨⟨ad, nd, cd, rfl, hOd⟩, hxd⟩
    simp only at hOd ⊢
    have EA := ext_al wd (.cells #[.int .i64 dq, .int .i64 db, .slice ad nd cd] 24)
    have rA := heap_alloc_new wd (.cells #[.int .i64 dq, .int .i64 db, .slice ad nd cd] 24)
    have bF := HF9.out.ext (hxd.trans EA); have bC := HC9.out.ext (hxd.trans EA)
    have x0' := bF.x0; have x1' := bF.x1; have g0' := bF.f 0; have g1' := bF.f 1
    have hP := only2 (wd.alloc (.cells #[.int .i64 dq, .int .i64 db, .slice ad nd cd] 24)) (K + 1) (.int .i64 d0) (.int .i64 d1)
    have lF := HF9.out.lt
    have sD := hxd.size
    have HCa := Lib.hid (bC.kept hP (by have := HK.out; omega)); have HFa := Lib.hid (bF.put d0 d1)
    have HDa := Lib.hid (CiB.kept (show CiB _ wd.heap.size dq db ad nd cd from ⟨rA⟩) hP (by omega))
    have HOa := Lib.hid ((hOd.ext EA).far bF.row (by decide) (by decide) hP)
    have HEa := Lib.hid (ext_only (HE9.out.trans (hxd.trans EA)) hP (by have := HwH.out; have := HK.out; omega))
    clear EA rA bF bC hP lF sD hOd hxd HCt HE9 HC9 HF9 l0 l1 l2
    go_upto_region 12 with fail
    generalize ((wd.alloc (.cells #[.int .i64 dq, .int .i64 db, .slice ad nd cd] 24)).setCell ⟨K + 1, 0, none⟩ (.int .i64 d0)).setCell ⟨K + 1, 1, none⟩ (.int .i64 d1) = Va at *
    generalize wd.heap.size = KD at *
    clear x0' x1' g0' g1'
    have l0 := HCa.out.x0; have p0 := HFa.out.x0
    obtain ⟨B2, hB2⟩ : ∃ B2 : Bool, decide (d0 ≠ 0 ∨ x < 0 ∨ (t : Int) ≤ x) = B2 := ⟨_, rfl⟩
    have HB2 := Lib.hid hB2
    clear hB2
    go_cut [85] from 72 to 85 (fun s85 wx => wx = Va ∧ s85 = .bool B2)
    case first =>
      by_cases hd : d0 = 0
      · have e0 : (d0 != 0) = false := by simp [hd]
        by_cases hx0 : x < 0
        · have hB : B2 = true := by rw [← HB2.out]; simp [hx0]
          subst hB
          clear hd
          go_wp2_with fail
          go_meet
          exact ⟨rfl, rfl⟩
        · by_cases hxt : (t : Int) ≤ x
          · have hB : B2 = true := by rw [← HB2.out]; simp [hxt]
            subst hB
            clear hd
            go_wp2_with fail
            go_meet
            exact ⟨rfl, rfl⟩
          · have hB : B2 = false := by rw [← HB2.out]; simp [hd, hx0, hxt]
            subst hB
            clear hd
            go_wp2_with fail
            go_meet
            exact ⟨rfl, rfl⟩
      · have e0 : (d0 != 0) = true := by simp [hd]
        have hB : B2 = true := by rw [← HB2.out]; simp [hd]
        subst hB
        clear hd
        go_wp2_with fail
        go_meet
        exact ⟨rfl, rfl⟩
    case rest =>
    obtain ⟨hwa, rfl⟩ := hcut
    have hwa := hwa.symm
    subst hwa
    clear l0 p0
    cases B2 with
    | true =>
      clear HB2 HDe
      go_wp2_with fail
      go_ret
      exact ⟨rfl, HEa.out⟩
    | false =>
      obtain ⟨hd, hx0, hxt⟩ : d0 = 0 ∧ 0 ≤ x ∧ x < (t : Int) := by
        have h0 := HB2.out
        simp only [decide_eq_false_iff_not, not_or, Classical.not_not] at h0
        omega
      obtain ⟨xn, rfl⟩ : ∃ xn : Nat, x = (xn : Int) := ⟨x.toNat, by omega⟩
      obtain ⟨e1, e2, e3, hq0, hqq, hcl⟩ := HDe.out hd
      have e2 := e2.symm
      subst e1; subst e2; subst e3
      obtain ⟨qq, rfl⟩ : ∃ qq : Nat, q = (qq : Int) := ⟨q.toNat, by omega⟩
      obtain ⟨hr1, hr2⟩ := (HPur.out.ctr hq0 hqq hcl).run (x := (xn : Int)) (by omega) (by rw [Int.toNat_natCast, Ht.out]; exact hxt)
      obtain ⟨hs1, hs2⟩ := HPur.out.run (x := (xn : Int)) (by omega) (by rw [Int.toNat_natCast, Ht.out]; exact hxt)
      obtain ⟨hi1, hi2, hi3, hi4⟩ := HOa.out.at
      have HR6 := Lib.hid (HRu.out Va HEa.out ⟨(qn : Int), bi, ops.map (ctrO (qq : Int))⟩ ad nd cd hi4 hi2 hi3)
      rw [hr1, hr2] at HR6
      simp only [Int.toNat_natCast, Ht.out] at HR6
      have HR7 := Lib.hid (fun wx (hx : Ext w wx) => HRu.out wx hx ⟨(qn : Int), bi, ops⟩ ao n cp (HO.out.ext hx) Hn.out Hcp.out)
      rw [hs1, hs2] at HR7
      simp only [Int.toNat_natCast, Ht.out] at HR7
      have Hxt := Lib.hid (show xn < t by omega)
      have Hoff := Lib.hid (fun hb => HPur.out.off hq0 hcl (x := xn) hb); have Hon := Lib.hid (fun hb => HPur.out.on hq0 hcl (x := xn) hb)
      obtain ⟨rb, hrb⟩ : ∃ r : Int, (if bt xn (qq : Int) then (1 : Int) else 0) = r := ⟨_, rfl⟩
      have hbb : bits .and .i64 ((xn : Int) / 2 ^ qq) 1 = rb := by rw [← hrb, shr1]; rfl
      have hmm : min qq 64 = qq := by have := HPur.out.q; omega
      have qz2 : (0 : Int) ≤ (qq : Int) := by omega
      have Hrb := Lib.hid hrb
      have b0 := HDa.out.x0; have b1 := HDa.out.x1; have b2 := HDa.out.x2
      clear hd hx0 hxt hq0 hqq hcl hr1 hr2 hs1 hs2 hi1 hi2 hi3 hi4 HB2 HDe HRu hrb
      go_wp2_with fail
      refine HR6.out.mono ?_
      rintro e w6 ⟨cs, rfl, hx6, hsh, _⟩
      obtain ⟨g, bb, rfl, hg, _⟩ := hsh (by trivial)
      simp only at hg ⊢
      obtain ⟨Ln, hLn⟩ : ∃ Ln, (List.replicate bi.toNat (0 : Int)).length = Ln := ⟨_, rfl⟩
      rw [hLn]
      have HLn := Lib.hid hLn
      have EB := ext_al w6 (.cells #[.slice (some ⟨g, 0, none⟩) t t, .slice (some ⟨bb, 0, none⟩) Ln Ln, .int .i64 0] 29)
      have rB := heap_alloc_new w6 (.cells #[.slice (some ⟨g, 0, none⟩) t t, .slice (some ⟨bb, 0, none⟩) Ln Ln, .int .i64 0] 29)
      have bF := HFa.out.ext (hx6.trans EB); have bC := HCa.out.ext (hx6.trans EB)
      have x0' := bF.x0; have x1' := bF.x1; have g0' := bF.f 0; have g1' := bF.f 1
      have hP := only2 (w6.alloc (.cells #[.slice (some ⟨g, 0, none⟩) t t, .slice (some ⟨bb, 0, none⟩) Ln Ln, .int .i64 0] 29)) (K + 1) (.int .i64 0) (.int .i64 0)
      have lF := HFa.out.lt
      have sD := hx6.size
      have HCb := Lib.hid (bC.kept hP (by have := HK.out; omega)); have HFb := Lib.hid (bF.put 0 0)
      have HrB := Lib.hid (row_kept rB hP (by omega))
      have HTb := Lib.hid (TxR.kept (TxR.ext hg EB) bF hP)
      have HEb := Lib.hid (ext_only (HEa.out.trans (hx6.trans EB)) hP (by have := HwH.out; have := HK.out; omega))
      clear EB rB bF bC hP lF sD hsh hg hx6 hLn HR6 HEa HCa HFa HDa HOa b0 b1 b2
      go_upto_region 15 with fail
      generalize ((w6.alloc (.cells #[.slice (some ⟨g, 0, none⟩) t t, .slice (some ⟨bb, 0, none⟩) Ln Ln, .int .i64 0] 29)).setCell ⟨K + 1, 0, none⟩ (.int .i64 0)).setCell ⟨K + 1, 1, none⟩ (.int .i64 0) = Vb at *
      generalize w6.heap.size = K14 at *
      clear x0' x1' g0' g1'
      have p0 := HFb.out.x0
      have s0 : Vb.cell? ⟨K14, 0, none⟩ = some (.slice (some ⟨g, 0, none⟩) t t) := by rw [cell_of_row _ _ 0 _ _ (0, 0) HrB.out]; rfl
      cases hbt : bt xn (qq : Int) with
      | false =>
        have Hr0 := Hrb.out
        rw [hbt] at Hr0
        have hr0 : rb = 0 := by simpa using Hr0.symm
        subst hr0
        have HTx := HTb.out
        rw [Hoff.out hbt] at HTx
        have HOn := Lib.hid (only_any (bas xn) g t t xn Vb HTx Ht4.out Hxt.out (fun _ _ => rfl))
        clear HTx hbt Hr0 Hrb
        go_wp2_with fail
        refine HOn.out.mono ?_
        rintro e w8 ⟨rfl, rfl⟩
        go_wp2_with fail
        go_ret
        exact ⟨rfl, HEb.out⟩
      | true =>
        have Hr0 := Hrb.out
        rw [hbt] at Hr0
        have hr0 : rb = 1 := by simpa using Hr0.symm
        subst hr0
        have HTx := HTb.out
        rw [Hon.out hbt] at HTx
        have HTc := Lib.hid HTx
        have l0 := HCb.out.x0; have l1 := HCb.out.x1; have l2 := HCb.out.x2
        clear HTx hbt Hr0 Hrb HTb
        go_wp2_with fail
        refine (HR7.out Vb HEb.out).mono ?_
        rintro e w7 ⟨cs, rfl, hx7, hsh, _⟩
        obtain ⟨g2, bb2, rfl, hg2, _⟩ := hsh (by trivial)
        simp only at hg2 ⊢
        rw [HLn.out]
        have EB := ext_al w7 (.cells #[.slice (some ⟨g2, 0, none⟩) t t, .slice (some ⟨bb2, 0, none⟩) Ln Ln, .int .i64 0] 29)
        have rB := heap_alloc_new w7 (.cells #[.slice (some ⟨g2, 0, none⟩) t t, .slice (some ⟨bb2, 0, none⟩) Ln Ln, .int .i64 0] 29)
        have bF := HFb.out.ext (hx7.trans EB)
        have x0' := bF.x0; have x1' := bF.x1; have g0' := bF.f 0; have g1' := bF.f 1
        have hP := only2 (w7.alloc (.cells #[.slice (some ⟨g2, 0, none⟩) t t, .slice (some ⟨bb2, 0, none⟩) Ln Ln, .int .i64 0] 29)) (K + 1) (.int .i64 0) (.int .i64 0)
        have lF := HFb.out.lt
        have sD := hx7.size
        have HFc := Lib.hid (bF.put 0 0)
        have HrC := Lib.hid (row_kept rB hP (by omega))
        have hne : K14 ≠ K + 1 := by
          rintro rfl
          have h1 := HFb.out.row
          rw [HrB.out] at h1
          injection h1 with h1
          injection h1 with _ h1 _
          exact absurd h1 (by decide)
        have HrB2 := Lib.hid (row_kept (((hx7.trans EB).block _ (Array.getElem?_eq_some_iff.1 HrB.out).1).trans HrB.out) hP hne)
        have HT1 := Lib.hid (TxR.kept (TxR.ext HTc.out (hx7.trans EB)) bF hP); have HT2 := Lib.hid (TxR.kept (TxR.ext hg2 EB) bF hP)
        have HEc := Lib.hid (ext_only (HEb.out.trans (hx7.trans EB)) hP (by have := HwH.out; have := HK.out; omega))
        clear EB rB bF hP lF sD hsh hg2 hx7 HR7 HEb HCb HFb HrB HTc hne p0 s0 l0 l1 l2
        go_upto_region 20 with fail
        generalize ((w7.alloc (.cells #[.slice (some ⟨g2, 0, none⟩) t t, .slice (some ⟨bb2, 0, none⟩) Ln Ln, .int .i64 0] 29)).setCell ⟨K + 1, 0, none⟩ (.int .i64 0)).setCell ⟨K + 1, 1, none⟩ (.int .i64 0) = Vc at *
        generalize w7.heap.size = K15 at *
        clear x0' x1' g0' g1'
        have p0 := HFc.out.x0
        have s0 : Vc.cell? ⟨K14, 0, none⟩ = some (.slice (some ⟨g, 0, none⟩) t t) := by rw [cell_of_row _ _ 0 _ _ (0, 0) HrB2.out]; rfl
        have s1 : Vc.cell? ⟨K15, 0, none⟩ = some (.slice (some ⟨g2, 0, none⟩) t t) := by rw [cell_of_row _ _ 0 _ _ (0, 0) HrC.out]; rfl
        have HSt := Lib.hid (sameTexts_any _ _ t t _ t Vc HT1.out.strs HT2.out.strs Ht4.out)
        go_wp2_with fail
        refine HSt.out.mono ?_
        rintro e w8 ⟨rfl, hx8⟩
        have HEd := Lib.hid (HEc.out.trans hx8)
        clear hx8 HSt p0 s0 s1
        go_wp2_with fail
        go_ret
        exact ⟨rfl, HEd.out⟩
end Go.Proofs.YtfjnlopbmkimiaaGreatDoor
