/-
  The program's Control. Qubits renumbered: in plain lists; lists written over in place; the program's move.
-/
import Derived.Test.YtapolidgocfbjaaDoorProg
import Derived.Test.YtapolidgocfbjaaDoorRows
import Derived.BigQuiet
import Derived.Deep.AppendLies
import Derived.Deep.Cut
import Derived.Deep.CutRange
import Derived.Deep.LoopGhost
import Derived.Deep.QuietTactic
import Derived.Deep.RegionHeld3
import Derived.Defers
import Derived.Laws.AppendOwnNone
import Derived.Laws.Bits64b
import Derived.Laws.Concat
import Derived.Laws.CopyOwn
import Derived.Laws.IdiomStrings
import Derived.Laws.ResultCell
import Derived.Lib.AppendStr
import Derived.Lib.AppendZeros
import Derived.Lib.AppendZerosOnto
import Derived.Lib.BitFns
import Derived.Lib.Hide
import Derived.Lib.ItoaMem
import Derived.Lib.ItoaNum
import Derived.Lib.Strings
import Derived.Maps.AppendAt
import Derived.OwnWalk
import Derived.Recover
import Derived.Shelf.LaysM
import Derived.Shelf.Strconv.Itoa0
import Derived.Shelf.Strconv.Itoa1
import Derived.Shelf.Strconv.Itoa2
import Derived.Shelf.Strconv.Itoa3
import Derived.Shelf.Strings.Builder1
import Derived.Shelf.Strings.BuilderF
import Derived.Shelf.Strings.BuilderK
import Derived.WalkKit
import Derived.WalkLawsBesides
import Derived.WalkSpells
import Derived.Test.YtapolidgocfbjaaDoorS00Ce
import Derived.Test.YtapolidgocfbjaaDoorS01Cj
import Derived.Test.YtapolidgocfbjaaDoorShelf
import Derived.Test.YtapolidgocfbjaaDoorS03Cq
import Derived.Test.YtapolidgocfbjaaDoorS04Ka
import Derived.Test.YtapolidgocfbjaaDoorS05Jj
import Derived.Test.YtapolidgocfbjaaDoorS06Kl
import Derived.Test.YtapolidgocfbjaaDoorS07Ko
import Derived.Test.YtapolidgocfbjaaDoorS08Ks
namespace Go.Proofs.YtapolidgocfbjaaDoor
open Go.RowKit

theorem phase_ctl {g : Gop} {n b : Int} (h : opCode g n b = 0) (hk : g.kind = 1) : g.ctl = [] := by
  unfold opCode at h
  split at h
  · omega
  split at h
  · omega
  split at h
  · omega
  split at h
  · omega
  · next h4 =>
    have hu : usesC g.kind = false := by rw [hk]; rfl
    have : ¬ 0 < g.ctl.length := fun hh => h4 ⟨hh, hu⟩
    exact List.length_eq_zero_iff.1 (by omega)
set_option maxHeartbeats 1000000 in
theorem stepK_storeO {ops : Array Oper} {o : Oper} {a : Act} {K : Act → World → Prop} {Q : Exit → Act → World → Prop} {E : Prop} {w : World} (hgd : o.guard = none) (hd : o.dst = none) (p x : Operand)
    (ho : o.op = .store 43 p x) (b off : Nat) (y0 y1 : Int) (b1 : Option Addr) (n1 d1 : Nat) (y3 y4 : Int) (b2 : Option Addr) (n2 d2 : Nat) (u0 u1 u2 u3 u4 u5 : Value) (hp : a.eval p = .pointer (some ⟨b, off, none⟩)) (hx : a.eval x = .agg #[.int .i64 y0, .int .i64 y1, .slice b1 n1 d1, .int .i64 y3, .int .i64 y4, .slice b2 n2 d2])
    (h0 : w.cell? ⟨b, off, none⟩ = some u0) (h1 : w.cell? ⟨b, off + 1, none⟩ = some u1) (h2 : w.cell? ⟨b, off + 2, none⟩ = some u2) (h3 : w.cell? ⟨b, off + 3, none⟩ = some u3) (h4 : w.cell? ⟨b, off + 4, none⟩ = some u4) (h5 : w.cell? ⟨b, off + 5, none⟩ = some u5) (f : ∀ k, w.frozen? ⟨b, k, none⟩ = false)
    (h : K a ((((((w.setCell ⟨b, off, none⟩ (.int .i64 y0)).setCell ⟨b, off + 1, none⟩ (.int .i64 y1)).setCell ⟨b, off + 2, none⟩ (.slice b1 n1 d1)).setCell ⟨b, off + 3, none⟩ (.int .i64 y3)).setCell ⟨b, off + 4, none⟩ (.int .i64 y4)).setCell ⟨b, off + 5, none⟩ (.slice b2 n2 d2))) :
    if Region.wanted o (yielded ops a.tmps) = true then Oper.wp Tryd.prog o a w K Q else E := by
  have hw : Region.wanted o (yielded ops a.tmps) = true := by simp [Region.wanted, hgd]
  rw [if_pos hw]
  obtain ⟨od, oo, ot, opp, oa, og⟩ := o
  simp only at ho hd
  subst ho hd
  have HH := Lib.hid h
  have f0 := f off; have f1 := f (off + 1); have f2 := f (off + 2); have f3 := f (off + 3); have f4 := f (off + 4); have f5 := f (off + 5)
  clear h f
  unfold Oper.wp execOp
  simp only [hp, hx]
  go_simp
  exact HH.out

set_option maxHeartbeats 8000000 in
set_option maxRecDepth 100000 in
theorem Control_U (c : Gci) (ao : Option Addr) (n cp : Nat) (q : Int) (w : World) (h : OpsAt w ao n c.ops) (hn : n ≤ cp) (hcp : cp ≤ 9223372036854775807) (hS : Shp w) :
    Calls Tryd.prog 11 #[.agg #[.int .i64 c.qubits, .int .i64 c.bits, .slice ao n cp], .int .i64 q] w fun e w' => Ans w w' e (ctrM c q) ∧ Ext w w' := by
  have hl : c.ops.length = n := h.1
  obtain ⟨FC, hFC⟩ : ∃ F, chk c = F := ⟨_, rfl⟩
  obtain ⟨FP, hFP⟩ : ∃ F, pur c = F := ⟨_, rfl⟩
  obtain ⟨R, hR⟩ : ∃ R, ctrM c q = R := ⟨_, rfl⟩
  have hzC : FC.1 = 0 → FC.2 = 0 := fun h => by rw [← hFC] at h ⊢; rw [(chk_zero h).1]
  have hzP : FP.1 = 0 → FP.2 = 0 := fun h => by rw [← hFP] at h ⊢; rw [(pur_zero h).2]
  have hfit : FC.1 = 0 → n ≤ 4096 ∧ ∀ g ∈ c.ops, (g.ctl.length ≤ 1000 ∧ g.cnd.length ≤ 1000) ∧ 1 ≤ g.kind ∧ g.kind ≤ 6 ∧ (g.kind = 1 → g.ctl = []) := fun h => by
    rw [← hFC] at h
    obtain ⟨_, h1, h2, h3, h4, h5, h6⟩ := chk_zero h
    refine ⟨by omega, fun g hg => ?_⟩
    have f := prFit_of_code h2 h3 h4 (h6 g hg)
    exact ⟨⟨Nat.le_trans f.few (by decide), Nat.le_trans f.cfew (by decide)⟩, (opCode_kind (h6 g hg)).1, (opCode_kind (h6 g hg)).2, fun hk => phase_ctl (h6 g hg) hk⟩
  have hR1 : FC.1 ≠ 0 → R = (FC, noC) := fun hh => by
    rw [← hR]; exact ctrM_no (u := FC.1) (v := FC.2) (by unfold ctrF; rw [hFC, if_pos hh]) hh
  have hR2 : FC.1 = 0 → (q < 0 ∨ c.qubits ≤ q) → R = ((10, 0), noC) := fun h1 h2 => by
    rw [← hR]; exact ctrM_no (by unfold ctrF; rw [hFC, if_neg (by simp [h1]), if_pos h2]) (by decide)
  have hR3 : FC.1 = 0 → ¬ (q < 0 ∨ c.qubits ≤ q) → FP.1 ≠ 0 → R = (FP, noC) := fun h1 h2 h3 => by
    rw [← hR]; exact ctrM_no (u := FP.1) (v := FP.2) (by unfold ctrF; rw [hFC, if_neg (by simp [h1]), if_neg h2, hFP, if_pos h3]) h3
  have hR4 : FC.1 = 0 → ¬ (q < 0 ∨ c.qubits ≤ q) → FP.1 = 0 → ∀ t : Int, clnF q 0 c.ops = (12, t) → R = ((12, t), noC) := fun h1 h2 h3 t ht => by
    rw [← hR]; exact ctrM_no (by unfold ctrF; rw [hFC, if_neg (by simp [h1]), if_neg h2, hFP, if_neg (by simp [h3]), ht]) (by decide)
  have hR5 : FC.1 = 0 → ¬ (q < 0 ∨ c.qubits ≤ q) → FP.1 = 0 → clnF q 0 c.ops = (0, 0) → R = ((0, 0), ⟨c.qubits, c.bits, c.ops.map (ctrO q)⟩) := fun h1 h2 h3 ht => by
    rw [← hR]; exact ctrM_yes (by unfold ctrF; rw [hFC, if_neg (by simp [h1]), if_neg h2, hFP, if_neg (by simp [h3]), ht])
  rw [hR]
  clear hR
  obtain ⟨qb, bi, ops⟩ := c
  obtain ⟨uc, vc⟩ := FC
  obtain ⟨up, vp⟩ := FP
  simp only at hzC hzP hfit hl h hR1 hR2 hR3 hR4 hR5 ⊢
  obtain ⟨H, hH⟩ : ∃ H, w.heap.size = H := ⟨_, rfl⟩
  obtain ⟨A1, hA1⟩ : ∃ A1, w.alloc (.cells #[.int .i64 qb, .int .i64 bi, .slice ao n cp] 24) = A1 := ⟨_, rfl⟩
  obtain ⟨A2, hA2⟩ : ∃ A2, A1.alloc (.cells #[.int .i64 0, .int .i64 0, .slice none 0 0] 24) = A2 := ⟨_, rfl⟩
  obtain ⟨A3, hA3⟩ : ∃ A3, A2.alloc (.cells #[.int .i64 0, .int .i64 0] 28) = A3 := ⟨_, rfl⟩
  have s1 : A1.heap.size = H + 1 := by rw [← hA1, ← hH]; simp
  have s2 : A2.heap.size = H + 2 := by rw [← hA2]; simp; omega
  have s3 : A3.heap.size = H + 3 := by rw [← hA3]; simp; omega
  have x1 : Ext w A1 := by rw [← hA1]; exact ext_al _ _
  have x2 : Ext A1 A2 := by rw [← hA2]; exact ext_al _ _
  have x3 : Ext A2 A3 := by rw [← hA3]; exact ext_al _ _
  have bC : CiB A3 H qb bi ao n cp := by
    have : CiB A1 H qb bi ao n cp := by rw [← hA1, ← hH]; exact ⟨heap_alloc_new w _⟩
    exact (this.ext x2).ext x3
  have bR : CiB A3 (H + 1) 0 0 none 0 0 := by
    have : CiB A2 (H + 1) 0 0 none 0 0 := by rw [← hA2, ← s1]; exact ⟨heap_alloc_new A1 _⟩
    exact this.ext x3
  have bF : FtB A3 (H + 2) 0 0 := by rw [← hA3, ← s2]; exact ⟨heap_alloc_new A2 _⟩
  have E0 : Ext w A3 := (x1.trans x2).trans x3
  have hA : ((w.alloc (.cells #[.int .i64 qb, .int .i64 bi, .slice ao n cp] 24)).alloc (.cells #[.int .i64 0, .int .i64 0, .slice none 0 0] 24)).alloc (.cells #[.int .i64 0, .int .i64 0] 28) = A3 := by rw [hA1, hA2, hA3]
  have HK := Lib.hid (Check_any ⟨qb, bi, ops⟩ ao n cp A3 (h.ext E0) hn hcp (hS.ext E0))
  have HKP := Lib.hid (fun wx (hx : Ext w wx) => Pure_any ⟨qb, bi, ops⟩ ao n cp wx (h.ext hx) hn hcp (hS.ext hx))
  rw [hFC] at HK
  rw [hFP] at HKP
  simp only at HK HKP
  have m0 := bC.x0; have m1 := bC.x1; have m2 := bC.x2
  rw [← hA] at m0 m1 m2
  have HA := Lib.hid hA; have HE0 := Lib.hid E0; have HC := Lib.hid bC; have HR := Lib.hid bR; have HFt := Lib.hid bF
  have Hops := Lib.hid h; have Hfit := Lib.hid hfit; have Hl := Lib.hid hl; have Hs3 := Lib.hid s3; have HhH := Lib.hid hH; have HSh := Lib.hid hS
  have HzC := Lib.hid hzC; have HzP := Lib.hid hzP; have HR1 := Lib.hid hR1; have HR2 := Lib.hid hR2; have HR3 := Lib.hid hR3; have HR4 := Lib.hid hR4; have HR5 := Lib.hid hR5
  have HIb := Lib.hid (fun wx => isBelow_any q qb wx)
  clear h E0 bC bR bF x1 x2 x3 s1 s2 s3 hA1 hA2 hA3 hA hfit hl hFC hFP hzC hzP hR1 hR2 hR3 hR4 hR5 hS
  go_enter Tryd.func11, Tryd.ntmps11
  go_wp2_with fail
  rw [HA.out]
  refine HK.out.mono ?_
  rintro e w1 ⟨rfl, hx1⟩
  have Ef := ext_al w1 (.cells #[.int .i64 uc, .int .i64 vc] 28)
  have bf1 : FtB (w1.alloc (.cells #[.int .i64 uc, .int .i64 vc] 28)) w1.heap.size uc vc := ⟨heap_alloc_new w1 _⟩
  have hX := hx1.trans Ef
  have d0 := bf1.x0; have d1 := bf1.x1
  have HbC := Lib.hid (HC.out.ext hX); have HbR := Lib.hid (HR.out.ext hX); have HbF := Lib.hid (HFt.out.ext hX); have HbE := Lib.hid (HE0.out.trans hX)
  have Hlo := Lib.hid (show H + 3 ≤ w1.heap.size by have h1 := hx1.size; have h2 := Hs3.out; omega)
  clear hx1 Ef bf1 hX HK HC HR HFt HE0 m0 m1 m2
  go_upto_region 2 with fail
  generalize w1.alloc (.cells #[.int .i64 uc, .int .i64 vc] 28) = W1 at *
  obtain ⟨Fb, hFb⟩ : ∃ y, w1.heap.size = y := ⟨_, rfl⟩
  rw [hFb] at Hlo d0 d1 ⊢
  have nF1 : Fb ≠ H + 1 := by have := Hlo.out; omega
  have nF2 : Fb ≠ H + 2 := by have := Hlo.out; omega
  clear hFb
  by_cases hu : uc = 0
  rotate_left 1
  · have nu := nt hu; have nb := bf hu
    have HRz := Lib.hid (HR1.out hu)
    clear hu
    have r0 := HbR.out.x0; have r1 := HbR.out.x1; have r2 := HbR.out.x2; have g0 := HbR.out.f 0; have g1 := HbR.out.f 1; have g2 := HbR.out.f 2
    have f0 := HbF.out.x0; have f1 := HbF.out.x1; have k0 := HbF.out.f 0; have k1 := HbF.out.f 1
    have zC := (putCF_C HbR.out (show H + 1 ≠ H + 2 by omega) 0 0 none 0 0 uc vc).drew
    have zF := (putCF_F HbF.out (show H + 1 ≠ H + 2 by omega) 0 0 none 0 0 uc vc).drew
    have zE : Ext w (putCF W1 (H + 1) (H + 2) 0 0 none 0 0 uc vc).drew := Below.drew (putCF_ext HbE.out (show w.heap.size ≤ H + 1 by omega) (show w.heap.size ≤ H + 2 by omega) _ _ _ _ _ _ _)
    obtain ⟨Wz, hWz⟩ : ∃ Wz, putCF W1 (H + 1) (H + 2) 0 0 none 0 0 uc vc = Wz := ⟨_, rfl⟩
    rw [hWz] at zC zF zE
    unfold putCF at hWz
    have HWz := Lib.hid hWz; have HzE := Lib.hid zE
    have v0 := zC.x0; have v1 := zC.x1; have v2 := zC.x2; have v3 := zF.x0; have v4 := zF.x1
    have HAns := Lib.hid (show ∀ e : Ending, e = .returned (.tuple #[.agg #[.int .i64 0, .int .i64 0, .slice none 0 0], .agg #[.int .i64 uc, .int .i64 vc]]) → Ans w Wz.drew e R from fun e he => by rw [HRz.out]; exact Ans.none he)
    clear zC zF zE hWz
    go_upto_region 3 with fail
    go_region
    go_wp2_with fail
    rw [HWz.out]
    exact bodyPost_ret (v := .tuple #[.agg #[.int .i64 0, .int .i64 0, .slice none 0 0], .agg #[.int .i64 uc, .int .i64 vc]]) (by simp [results, Tryd.results11, go_sem, v0, v1, v2, v3, v4]) rfl ⟨HAns.out _ rfl, HzE.out⟩
  have nu := nf' hu
  have Hu := Lib.hid hu
  clear hu
  have l0 := HbC.out.x0; have l1 := HbC.out.x1; have l2 := HbC.out.x2
  obtain ⟨bel, hbel⟩ : ∃ y, below q qb = y := ⟨_, rfl⟩
  rw [hbel] at HIb
  have hbq : bel = true ↔ ¬ (q < 0 ∨ qb ≤ q) := by
    rw [← hbel]; unfold below; simp
  have Hbq := Lib.hid hbq
  clear hbel hbq
  go_wp2_with fail
  refine (HIb.out W1).mono ?_
  rintro e wz ⟨rfl, hwz⟩
  subst hwz
  cases bel with
  | false =>
    have HRz := Lib.hid (HR2.out Hu.out (Decidable.byContradiction fun hh => absurd (Hbq.out.2 (by omega)) (by decide)))
    clear d0 d1 l0 l1 l2 HbC
    have r0 := HbR.out.x0; have r1 := HbR.out.x1; have r2 := HbR.out.x2; have g0 := HbR.out.f 0; have g1 := HbR.out.f 1; have g2 := HbR.out.f 2
    have f0 := HbF.out.x0; have f1 := HbF.out.x1; have k0 := HbF.out.f 0; have k1 := HbF.out.f 1
    have zC := (putCF_C HbR.out (show H + 1 ≠ H + 2 by omega) 0 0 none 0 0 10 0)
    have zF := (putCF_F HbF.out (show H + 1 ≠ H + 2 by omega) 0 0 none 0 0 10 0)
    have zE : Ext w (putCF wz (H + 1) (H + 2) 0 0 none 0 0 10 0) := (putCF_ext HbE.out (show w.heap.size ≤ H + 1 by omega) (show w.heap.size ≤ H + 2 by omega) _ _ _ _ _ _ _)
    obtain ⟨Wz, hWz⟩ : ∃ Wz, putCF wz (H + 1) (H + 2) 0 0 none 0 0 10 0 = Wz := ⟨_, rfl⟩
    rw [hWz] at zC zF zE
    unfold putCF at hWz
    have HWz := Lib.hid hWz; have HzE := Lib.hid zE
    have v0 := zC.x0; have v1 := zC.x1; have v2 := zC.x2; have v3 := zF.x0; have v4 := zF.x1
    have HAns := Lib.hid (show ∀ e : Ending, e = .returned (.tuple #[.agg #[.int .i64 0, .int .i64 0, .slice none 0 0], .agg #[.int .i64 10, .int .i64 0]]) → Ans w Wz e R from fun e he => by rw [HRz.out]; exact Ans.none he)
    clear zC zF zE hWz
    go_wp2_with fail
    rw [HWz.out]
    exact bodyPost_ret (v := .tuple #[.agg #[.int .i64 0, .int .i64 0, .slice none 0 0], .agg #[.int .i64 10, .int .i64 0]]) (by simp [results, Tryd.results11, go_sem, v0, v1, v2, v3, v4]) rfl ⟨HAns.out _ rfl, HzE.out⟩
  | true =>
  have Hq := Lib.hid (show ¬ (q < 0 ∨ qb ≤ q) by have hh := Hbq.out.1 (by trivial); omega)
  go_wp2_with fail
  refine (HKP.out wz HbE.out).mono ?_
  rintro e w2 ⟨rfl, hx2⟩
  clear d0 d1 l0 l1 l2
  have Ef := ext_al w2 (.cells #[.int .i64 up, .int .i64 vp] 28)
  have bf2 : FtB (w2.alloc (.cells #[.int .i64 up, .int .i64 vp] 28)) w2.heap.size up vp := ⟨heap_alloc_new w2 _⟩
  have hX := hx2.trans Ef
  have d0 := bf2.x0; have d1 := bf2.x1
  have HbC2 := Lib.hid (HbC.out.ext hX); have HbR2 := Lib.hid (HbR.out.ext hX); have HbF2 := Lib.hid (HbF.out.ext hX); have HbE2 := Lib.hid (HbE.out.trans hX)
  have Hlo2 := Lib.hid (show H + 3 ≤ w2.heap.size by have h1 := (HbF.out.ext hx2).lt; omega)
  clear hx2 Ef bf2 hX HbC HbR HbF HbE
  have HbC := HbC2; have HbR := HbR2; have HbF := HbF2; have HbE := HbE2
  clear HbC2 HbR2 HbF2 HbE2
  go_upto_region 7 with fail
  generalize w2.alloc (.cells #[.int .i64 up, .int .i64 vp] 28) = W2 at *
  obtain ⟨Pb, hPb⟩ : ∃ y, w2.heap.size = y := ⟨_, rfl⟩
  rw [hPb] at Hlo2 d0 d1 ⊢
  have nP1 : Pb ≠ H + 1 := by have := Hlo2.out; omega
  have nP2 : Pb ≠ H + 2 := by have := Hlo2.out; omega
  clear hPb
  by_cases hup : up = 0
  rotate_left 1
  · have nu := nt hup; have nb := bf hup
    have HRz := Lib.hid (HR3.out Hu.out (by have := Hq.out; omega) hup)
    clear hup
    have r0 := HbR.out.x0; have r1 := HbR.out.x1; have r2 := HbR.out.x2; have g0 := HbR.out.f 0; have g1 := HbR.out.f 1; have g2 := HbR.out.f 2
    have f0 := HbF.out.x0; have f1 := HbF.out.x1; have k0 := HbF.out.f 0; have k1 := HbF.out.f 1
    have zC := (putCF_C HbR.out (show H + 1 ≠ H + 2 by omega) 0 0 none 0 0 up vp).drew
    have zF := (putCF_F HbF.out (show H + 1 ≠ H + 2 by omega) 0 0 none 0 0 up vp).drew
    have zE : Ext w (putCF W2 (H + 1) (H + 2) 0 0 none 0 0 up vp).drew := Below.drew (putCF_ext HbE.out (show w.heap.size ≤ H + 1 by omega) (show w.heap.size ≤ H + 2 by omega) _ _ _ _ _ _ _)
    obtain ⟨Wz, hWz⟩ : ∃ Wz, putCF W2 (H + 1) (H + 2) 0 0 none 0 0 up vp = Wz := ⟨_, rfl⟩
    rw [hWz] at zC zF zE
    unfold putCF at hWz
    have HWz := Lib.hid hWz; have HzE := Lib.hid zE
    have v0 := zC.x0; have v1 := zC.x1; have v2 := zC.x2; have v3 := zF.x0; have v4 := zF.x1
    have HAns := Lib.hid (show ∀ e : Ending, e = .returned (.tuple #[.agg #[.int .i64 0, .int .i64 0, .slice none 0 0], .agg #[.int .i64 up, .int .i64 vp]]) → Ans w Wz.drew e R from fun e he => by rw [HRz.out]; exact Ans.none he)
    clear zC zF zE hWz
    go_upto_region 8 with fail
    go_region
    go_wp2_with fail
    rw [HWz.out]
    exact bodyPost_ret (v := .tuple #[.agg #[.int .i64 0, .int .i64 0, .slice none 0 0], .agg #[.int .i64 up, .int .i64 vp]]) (by simp [results, Tryd.results11, go_sem, v0, v1, v2, v3, v4]) rfl ⟨HAns.out _ rfl, HzE.out⟩
  have nu2 := nf' hup
  have Hup := Lib.hid hup
  clear hup
  obtain ⟨hn4, hfit⟩ := Hfit.out Hu.out
  have Hft := Lib.hid hfit
  have HR4' := Lib.hid (HR4.out Hu.out (by have := Hq.out; omega) Hup.out)
  have HR5' := Lib.hid (HR5.out Hu.out (by have := Hq.out; omega) Hup.out)
  clear hfit
  have l0 := HbC.out.x0; have l1 := HbC.out.x1; have l2 := HbC.out.x2
  go_wp2_with fail
  clear d0 d1 nu2 l0 l1 l2
  go_loopg [8, 9, 37] n (fun kk s8 s9 s37 wx => ∃ i : Nat, s37 = .int .i64 (i : Int) ∧ i ≤ n ∧ n - i = kk ∧ clnF q 0 ops = clnF q i (ops.drop i) ∧ Ext W2 wx)
  case atStart => exact ⟨0, rfl, by omega, by omega, by rw [List.drop_zero], Ext.refl _⟩
  case round =>
    obtain ⟨i, rfl, hin', hk, hcl, hX⟩ := hrel
    by_cases hin : i = n
    rotate_left 1
    · have q1 : (i : Int) < (n : Int) := by omega
      have q1' : decide ((i : Int) < (n : Int)) = true := dt q1
      have q0 : (0 : Int) ≤ (i : Int) := by omega
      obtain ⟨gg, hg⟩ : ∃ g, ops[i]? = some g := ⟨_, List.getElem?_eq_getElem (by rw [Hl.out]; omega)⟩
      rw [clnF_step q ops i gg hg] at hcl
      have hXw := HbE.out.trans hX
      obtain ⟨bo, oo, rfl⟩ := (Hops.out.ext hXw).some_of (by omega)
      obtain ⟨a1, m1, c1, a2, m2, c2, t0, t1, t2, t3, t4, t5, hLo⟩ := (Hops.out.ext hXw).at i gg hg
      obtain ⟨_, hk1, hk6, hph⟩ := Hft.out gg (List.mem_of_getElem? hg)
      have EU := ext_al wr (.cells #[.int .i64 gg.kind, .int .i64 gg.k, .slice a1 m1 c1, .int .i64 gg.q, .int .i64 gg.bit, .slice a2 m2 c2] 43)
      have bx := opbx_new wr gg.kind gg.k a1 m1 c1 gg.q gg.bit a2 m2 c2
      have HUq := Lib.hid (usesQubit_any gg a1 m1 c1 a2 m2 c2 q _ (hLo.i1.ext EU) hLo.h1 hLo.m1 hk1 hk6 hph (HSh.out.ext (hXw.trans EU)))
      have HcR := Lib.hid ((HbR.out.ext hX).ext EU); have HcF := Lib.hid ((HbF.out.ext hX).ext EU); have HcE := Lib.hid (hXw.trans EU); have HcX := Lib.hid (hX.trans EU); have Hcl0 := Lib.hid hcl; have Hk := Lib.hid hk
      have Huse := Lib.hid (show (uses gg q) ↔ (¬ gg.kind = 1 ∧ (gg.q = q ∨ q ∈ gg.ctl)) from Iff.rfl)
      obtain ⟨ub, hub⟩ : ∃ y, decide (uses gg q) = y := ⟨_, rfl⟩
      rw [hub] at HUq
      have Hub := Lib.hid hub
      have v2 := (HbC.out.ext hX).x2
      obtain ⟨kd, kk', ctl, qq, bb, cnd⟩ := gg
      simp only at t0 t1 t3 t4 HUq EU bx
      have e0 := bx.x0; have e1 := bx.x1; have e2 := bx.x2; have e3 := bx.x3; have e4 := bx.x4; have e5 := bx.x5
      clear hcl hk hX hXw hLo hk1 hk6 hph EU bx hg hub
      go_wp2_with fail
      generalize wr.alloc (.cells #[.int .i64 kd, .int .i64 kk', .slice a1 m1 c1, .int .i64 qq, .int .i64 bb, .slice a2 m2 c2] 43) = U at *
      refine HUq.out.mono ?_
      rintro e w4 ⟨rfl, hx4⟩
      have HbR4 := Lib.hid (HcR.out.ext hx4); have HbF4 := Lib.hid (HcF.out.ext hx4); have HbE4 := Lib.hid (HcE.out.trans hx4); have HX4 := Lib.hid (HcX.out.trans hx4)
      clear hx4 HcR HcF HcE HcX e0 e1 e2 e3 e4 e5 t0 t1 t2 t3 t4 t5 v2 HUq
      cases ub with
      | true =>
        have hcl := Hcl0.out
        rw [if_pos (Huse.out.1 (of_decide_eq_true Hub.out))] at hcl
        have HRz := Lib.hid (HR4'.out _ hcl)
        clear hcl HbR HbF HbE
        have HbR := HbR4; have HbF := HbF4; have HbE := HbE4
        clear HbR4 HbF4 HbE4 HX4 HbC
        have r0 := HbR.out.x0; have r1 := HbR.out.x1; have r2 := HbR.out.x2; have g0 := HbR.out.f 0; have g1 := HbR.out.f 1; have g2 := HbR.out.f 2
        have f0 := HbF.out.x0; have f1 := HbF.out.x1; have k0 := HbF.out.f 0; have k1 := HbF.out.f 1
        have zC := (putCF_C HbR.out (show H + 1 ≠ H + 2 by omega) 0 0 none 0 0 12 (i : Int))
        have zF := (putCF_F HbF.out (show H + 1 ≠ H + 2 by omega) 0 0 none 0 0 12 (i : Int))
        have zE : Ext w (putCF w4 (H + 1) (H + 2) 0 0 none 0 0 12 (i : Int)) := (putCF_ext HbE.out (show w.heap.size ≤ H + 1 by omega) (show w.heap.size ≤ H + 2 by omega) _ _ _ _ _ _ _)
        obtain ⟨Wz, hWz⟩ : ∃ Wz, putCF w4 (H + 1) (H + 2) 0 0 none 0 0 12 (i : Int) = Wz := ⟨_, rfl⟩
        rw [hWz] at zC zF zE
        unfold putCF at hWz
        have HWz := Lib.hid hWz; have HzE := Lib.hid zE
        have v0 := zC.x0; have v1 := zC.x1; have v2 := zC.x2; have v3 := zF.x0; have v4 := zF.x1
        have HAns := Lib.hid (show ∀ e : Ending, e = .returned (.tuple #[.agg #[.int .i64 0, .int .i64 0, .slice none 0 0], .agg #[.int .i64 12, .int .i64 (i : Int)]]) → Ans w Wz e R from fun e he => by rw [HRz.out]; exact Ans.none he)
        clear zC zF zE hWz
        go_wp2_with fail
        rw [HWz.out]
        exact bodyPost_ret (v := .tuple #[.agg #[.int .i64 0, .int .i64 0, .slice none 0 0], .agg #[.int .i64 12, .int .i64 (i : Int)]]) (by simp [results, Tryd.results11, go_sem, v0, v1, v2, v3, v4]) rfl ⟨HAns.out _ rfl, HzE.out⟩
      | false =>
        have hcl := Hcl0.out
        rw [if_neg (fun hh => of_decide_eq_false Hub.out (Huse.out.2 hh))] at hcl
        have Hcl := Lib.hid hcl
        clear hcl
        go_wp2_with fail
        go_roundg (n - (i + 1))
        case measure => have := Hk.out; omega
        case rel => exact ⟨i + 1, by go_num, by omega, rfl, Hcl.out, HX4.out⟩
    have q1 : ¬ (i : Int) < (n : Int) := by omega
    have q1' : decide ((i : Int) < (n : Int)) = false := df q1
    rw [hin, clnF_end q ops n (by rw [Hl.out]; omega)] at hcl
    have HRz := Lib.hid (HR5'.out hcl)
    have HcC := Lib.hid (HbC.out.ext hX); have HcR := Lib.hid (HbR.out.ext hX); have HcF := Lib.hid (HbF.out.ext hX); have HcE := Lib.hid (HbE.out.trans hX)
    have l0 := HcC.out.x0; have l1 := HcC.out.x1; have l2 := HcC.out.x2
    have Hin := Lib.hid hin
    clear hcl hX hk hin' HbC HbR HbF HbE hin
    go_wp2_with fail
    obtain ⟨W3, rfl⟩ : ∃ W3 : World, W3 = wr := ⟨_, rfl⟩
    refine (with_N qb bi ao n cp ao n cp ops W3 (Hops.out.ext HcE.out) (by omega) (fun g hg => (Hft.out g hg).1)).mono ?_
    rintro e w5 ⟨⟨av, cv, rfl, hO5⟩, hx5⟩
    clear l0 l1 l2
    have Eo := ext_al w5 (.cells #[.int .i64 qb, .int .i64 bi, .slice av n cv] 24)
    have bO : CiB (w5.alloc (.cells #[.int .i64 qb, .int .i64 bi, .slice av n cv] 24)) w5.heap.size qb bi av n cv := ⟨heap_alloc_new w5 _⟩
    have hX := hx5.trans Eo
    have y2 := bO.x2
    have HcR5 := Lib.hid (HcR.out.ext hX); have HcF5 := Lib.hid (HcF.out.ext hX); have HcE5 := Lib.hid (HcE.out.trans hX); have HO5 := Lib.hid bO; have Hown5 := Lib.hid (hO5.ext Eo)
    have HsF := Lib.hid (show H + 3 ≤ W3.heap.size by have := HcF.out.lt; omega)
    have HOlt := Lib.hid (show ∀ k, (Value.slice av n cv).ownBlock = some k → W3.heap.size + 3 ≤ k ∧ k < w5.heap.size from fun k hk => by
      obtain ⟨xs, hox⟩ := hO5
      exact own_lt hox.own k hk)
    have HOs := Lib.hid (show w5.heap.size < (w5.alloc (.cells #[.int .i64 qb, .int .i64 bi, .slice av n cv] 24)).heap.size by simp)
    have Hw53 := Lib.hid (show W3.heap.size ≤ w5.heap.size from hx5.size)
    clear hx5 hO5 Eo bO hX HcC HcR HcF HcE
    go_wp2_with fail
    generalize w5.alloc (.cells #[.int .i64 qb, .int .i64 bi, .slice av n cv] 24) = W5 at *
    obtain ⟨Ob, hOb⟩ : ∃ y, w5.heap.size = y := ⟨_, rfl⟩
    rw [hOb] at HO5 HOlt HOs Hw53 ⊢
    clear hOb y2
    obtain ⟨base, hbase⟩ : ∃ y, W3.heap.size + 3 = y := ⟨_, rfl⟩
    rw [hbase] at Hown5 HOlt
    have Hbb := Lib.hid (show H + 6 ≤ base by have := HsF.out; omega)
    have HbO := Lib.hid (show H + 3 ≤ Ob by have := HsF.out; have := Hw53.out; omega)
    clear hbase
    go_loopg [11, 12, 56] n (fun kk s11 s12 s56 wx => ∃ i : Nat, s56 = .int .i64 (i : Int) ∧ i ≤ n ∧ n - i = kk ∧ CiB wx (H + 1) 0 0 none 0 0 ∧ FtB wx (H + 2) 0 0 ∧ CiB wx Ob qb bi av n cv ∧ OpsN wx base (.slice av n cv) (mapF (ctrO q) ops i) ∧ Ext w wx ∧ Ob < wx.heap.size)
    case atStart => exact ⟨0, rfl, by omega, by omega, HcR5.out, HcF5.out, HO5.out, by rw [mapF_zero]; exact Hown5.out, HcE5.out, HOs.out⟩
    case round =>
      clear HcR5 HcF5 HO5 Hown5 HcE5
      obtain ⟨i, rfl, hin', hk, bR, bF, bO, hO, hX, hsO⟩ := hrel
      have hbO := HbO.out
      by_cases hin : i = n
      · have q1 : ¬ (i : Int) < (n : Int) := by omega
        have q1' : decide ((i : Int) < (n : Int)) = false := df q1
        rw [mapF_all (by rw [Hl.out]; omega)] at hO
        have y0 := bO.x0; have y1 := bO.x1; have y2 := bO.x2
        have r0 := bR.x0; have r1 := bR.x1; have r2 := bR.x2; have g0 := bR.f 0; have g1 := bR.f 1; have g2 := bR.f 2
        have f0 := bF.x0; have f1 := bF.x1; have k0 := bF.f 0; have k1 := bF.f 1
        have zC := putCF_C bR (show H + 1 ≠ H + 2 by omega) qb bi av n cv 0 0
        have zF := putCF_F bF (show H + 1 ≠ H + 2 by omega) qb bi av n cv 0 0
        have zO := (putCF_opsN hO bR bF (show H + 1 ≠ H + 2 by omega) qb bi av n cv 0 0).down (show w.heap.size ≤ base by have := Hbb.out; omega)
        have zE : Ext w (putCF wr (H + 1) (H + 2) qb bi av n cv 0 0) := putCF_ext hX (show w.heap.size ≤ H + 1 by omega) (show w.heap.size ≤ H + 2 by omega) _ _ _ _ _ _ _
        obtain ⟨Wz, hWz⟩ : ∃ Wz, putCF wr (H + 1) (H + 2) qb bi av n cv 0 0 = Wz := ⟨_, rfl⟩
        rw [hWz] at zC zF zO zE
        unfold putCF at hWz
        have HWz := Lib.hid hWz; have HzE := Lib.hid zE
        have HAns := Lib.hid (show ∀ e : Ending, e = .returned (.tuple #[.agg #[.int .i64 qb, .int .i64 bi, .slice av n cv], .agg #[.int .i64 0, .int .i64 0]]) → Ans w Wz e R from fun e he => by rw [HRz.out]; exact ⟨av, n, cv, he, zO⟩)
        have v0 := zC.x0; have v1 := zC.x1; have v2 := zC.x2; have v3 := zF.x0; have v4 := zF.x1
        clear zC zF zO zE hWz bR bF bO hO hX hin' hk hsO hin
        go_wp2_with fail
        rw [HWz.out]
        exact bodyPost_ret (v := .tuple #[.agg #[.int .i64 qb, .int .i64 bi, .slice av n cv], .agg #[.int .i64 0, .int .i64 0]]) (by simp [results, Tryd.results11, go_sem, v0, v1, v2, v3, v4]) rfl ⟨HAns.out _ rfl, HzE.out⟩
      have q1 : (i : Int) < (n : Int) := by omega
      have q1' : decide ((i : Int) < (n : Int)) = true := dt q1
      have p0 : (0 : Int) ≤ (i : Int) := by omega
      obtain ⟨gg, hg⟩ : ∃ g, ops[i]? = some g := ⟨_, List.getElem?_eq_getElem (by rw [Hl.out]; omega)⟩
      obtain ⟨⟨hbl1, hbl2⟩, _⟩ := Hft.out gg (List.mem_of_getElem? hg)
      obtain ⟨hl2, g, cur, eav, hbg, hrw, hnc, hcm, hsz, hsep, hrow⟩ := opsN_open hO (by omega)
      subst eav
      obtain ⟨a1, m1, c1, a2, m2, c2, x0, x1, x2, x3, x4, x5, x6⟩ := hrow i gg (by rw [mapF_get (by rw [Hl.out]; omega), if_neg (by omega)]; exact hg)
      have ce : ∀ (k : Nat) (v : Value), cur[k]? = some v → wr.cell? ⟨g, k, none⟩ = some v := fun k v e => by rw [cell_of_row wr g k cur _ (0, 0) hrw]; exact e
      have t0 := ce _ _ x0; have t1 := ce _ _ x1; have t2 := ce _ _ x2; have t3 := ce _ _ x3; have t4 := ce _ _ x4; have t5 := ce _ _ x5
      have gOb : g < Ob := (HOlt.out g rfl).2
      have hn1' : m1 ≤ 1000 := by rw [← x6.opO.l.i1.1]; exact hbl1
      obtain ⟨U, hU⟩ : ∃ U, wr.alloc (.cells #[.int .i64 gg.kind, .int .i64 gg.k, .slice a1 m1 c1, .int .i64 gg.q, .int .i64 gg.bit, .slice a2 m2 c2] 43) = U := ⟨_, rfl⟩
      obtain ⟨Bx, hBx⟩ : ∃ x, wr.heap.size = x := ⟨_, rfl⟩
      have hEU : Ext wr U := by rw [← hU]; exact ext_al _ _
      have bx : OpBx U Bx gg.kind gg.k a1 m1 c1 gg.q gg.bit a2 m2 c2 := by rw [← hU, ← hBx]; exact opbx_new wr _ _ a1 m1 c1 _ _ a2 m2 c2
      have HCt := Lib.hid (fun wx (hx : Ext U wx) => control_any gg a1 m1 c1 a2 m2 c2 base q wx ((x6.i1.ext hEU).ext hx) hn1')
      have Hrw := Lib.hid (show ∀ wx, Ext U wx → wx.heap[g]? = some (.cells cur 43 (0, 0)) from fun wx hx => ((hEU.trans hx).block g (Array.getElem?_eq_some_iff.1 hrw).1).trans hrw)
      have Hrow := Lib.hid hrow; have Hsep := Lib.hid hsep; have Hx6 := Lib.hid x6; have HEU := Lib.hid hEU
      have Hx2 := Lib.hid x2; have Hx5 := Lib.hid x5
      have HbR := Lib.hid (bR.ext hEU); have HbF := Lib.hid (bF.ext hEU); have HbO' := Lib.hid (bO.ext hEU); have HXU := Lib.hid (hX.trans hEU)
      have HU := Lib.hid hU; have Hg := Lib.hid hg; have Hsz := Lib.hid hsz; have Hk := Lib.hid hk; have HBx := Lib.hid hBx
      have Hnc := Lib.hid hnc; have Hcm := Lib.hid hcm; have Hbg := Lib.hid hbg
      have HsU := Lib.hid (show wr.heap.size < U.heap.size by rw [← hU]; simp)
      have v2 := (bO.ext hEU).x2
      obtain ⟨kd, kk', ctl, qq, bb, cnd⟩ := gg
      simp only at t0 t1 t3 t4 HCt bx HU
      have e0 := bx.x0; have e1 := bx.x1; have e2 := bx.x2; have e3 := bx.x3; have e4 := bx.x4; have e5 := bx.x5
      have nOx : Ob ≠ Bx := by omega
      have sO := Lib.hid hsO
      clear hU hEU bx ce hrow hrw x0 x1 x2 x3 x4 x5 x6 hbl1 hbl2 hg bR bF bO hO hX hl2 hnc hcm hsz hbg hsep hn1' hk
      go_upto_region 19 with fail
      rw [HU.out]
      clear t0 t1 t2 t3 t4 t5
      have hE0d : Ext U U.drew := Below.drew (Ext.refl _)
      refine wp_region_K 7 (fun w' => w'.cell? ⟨Ob, 2, none⟩ = some (.slice (some ⟨g, 0, none⟩) n cv) ∧ w'.cell? ⟨Bx, 0, none⟩ = some (.int .i64 kd) ∧ w'.cell? ⟨Bx, 1, none⟩ = some (.int .i64 kk') ∧ w'.cell? ⟨Bx, 2, none⟩ = some (.slice a1 m1 c1) ∧ w'.cell? ⟨Bx, 3, none⟩ = some (.int .i64 qq) ∧ w'.cell? ⟨Bx, 4, none⟩ = some (.int .i64 bb) ∧ w'.cell? ⟨Bx, 5, none⟩ = some (.slice a2 m2 c2)) (by kernel_rfl) ?_
      show anyK _ _ _ _ _ _ 8 #[false, false, false, false, false, false, false, false] _ _
      have hHeld : U.drew.cell? ⟨Ob, 2, none⟩ = some (.slice (some ⟨g, 0, none⟩) n cv) ∧ U.drew.cell? ⟨Bx, 0, none⟩ = some (.int .i64 kd) ∧ U.drew.cell? ⟨Bx, 1, none⟩ = some (.int .i64 kk') ∧ U.drew.cell? ⟨Bx, 2, none⟩ = some (.slice a1 m1 c1) ∧ U.drew.cell? ⟨Bx, 3, none⟩ = some (.int .i64 qq) ∧ U.drew.cell? ⟨Bx, 4, none⟩ = some (.int .i64 bb) ∧ U.drew.cell? ⟨Bx, 5, none⟩ = some (.slice a2 m2 c2) := ⟨cell_ext v2 hE0d, cell_ext e0 hE0d, cell_ext e1 hE0d, cell_ext e2 hE0d, cell_ext e3 hE0d, cell_ext e4 hE0d, cell_ext e5 hE0d⟩
      refine anyK_take (i := 0) (v := ?_) rfl (by kernel_rfl) (by kernel_rfl) (by kernel_rfl) (N := 8) (by kernel_rfl) (by kernel_rfl) (by kernel_rfl) (fun _ _ _ h => h) (Or.inl ⟨by rfl, ?_⟩) hHeld ?_
      rotate_left 1
      · intro w hSw
        go_simp
        try with_reducible rfl
      show anyK _ _ _ _ _ _ _ _ (Act.put _ (some 61) _) _
      simp only [Act.put, List.setIfInBounds_toArray, List.set_cons_zero, List.set_cons_succ]
      refine anyK_take (i := 1) (v := ?_) rfl (by kernel_rfl) (by kernel_rfl) (by kernel_rfl) (N := 8) (by kernel_rfl) (by kernel_rfl) (by kernel_rfl) (fun _ _ _ h => h) (Or.inl ⟨by rfl, ?_⟩) hHeld ?_
      rotate_left 1
      · intro w hSw
        go_simp
        try with_reducible rfl
      show anyK _ _ _ _ _ _ _ _ (Act.put _ (some 62) _) _
      simp only [Act.put, List.setIfInBounds_toArray, List.set_cons_zero, List.set_cons_succ]
      refine anyK_take (i := 2) (v := ?_) rfl (by kernel_rfl) (by kernel_rfl) (by kernel_rfl) (N := 8) (by kernel_rfl) (by kernel_rfl) (by kernel_rfl) (fun _ _ _ h => h) (Or.inl ⟨by rfl, ?_⟩) hHeld ?_
      rotate_left 1
      · intro w hSw
        go_simp
        try with_reducible rfl
      show anyK _ _ _ _ _ _ _ _ (Act.put _ (some 63) _) _
      simp only [Act.put, List.setIfInBounds_toArray, List.set_cons_zero, List.set_cons_succ]
      refine anyK_take (i := 3) (v := ?_) rfl (by kernel_rfl) (by kernel_rfl) (by kernel_rfl) (N := 8) (by kernel_rfl) (by kernel_rfl) (by kernel_rfl) (fun _ _ _ h => h) (Or.inl ⟨by rfl, ?_⟩) hHeld ?_
      rotate_left 1
      · intro w hSw
        go_simp
        try with_reducible rfl
      show anyK _ _ _ _ _ _ _ _ (Act.put _ (some 64) _) _
      simp only [Act.put, List.setIfInBounds_toArray, List.set_cons_zero, List.set_cons_succ]
      refine anyK_take (i := 4) (v := ?_) rfl (by kernel_rfl) (by kernel_rfl) (by kernel_rfl) (N := 8) (by kernel_rfl) (by kernel_rfl) (by kernel_rfl) (fun _ _ _ h => h) (Or.inl ⟨by rfl, ?_⟩) hHeld ?_
      rotate_left 1
      · intro w hSw
        go_simp
        try with_reducible rfl
      show anyK _ _ _ _ _ _ _ _ (Act.put _ (some 65) _) _
      simp only [Act.put, List.setIfInBounds_toArray, List.set_cons_zero, List.set_cons_succ]
      clear hHeld
      refine anyK_one (i := 5) (by kernel_rfl) rfl (fun Kk hKk => ?_)
      go_simp
      (go_at_call 33; refine (HCt.out _ hE0d).mono ?_; rintro e w4 ⟨hres, hx4⟩)
      have he4 : Ext U w4 := hE0d.trans hx4
      obtain ⟨y0, y1, b1, n1', d1, y3, y4, b2, n2', d2, rfl, hgn, _, hfr, hsm⟩ : ∃ (y0 y1 : Int) (b1 : Option Addr) (n1' d1 : Nat) (y3 y4 : Int) (b2 : Option Addr) (n2' d2 : Nat), e = .returned (.agg #[.int .i64 y0, .int .i64 y1, .slice b1 n1' d1, .int .i64 y3, .int .i64 y4, .slice b2 n2' d2]) ∧ (∃ l1 l2, ctrO q ⟨kd, kk', ctl, qq, bb, cnd⟩ = ⟨y0, y1, l1, y3, y4, l2⟩ ∧ OpN w4 base ⟨y0, y1, l1, y3, y4, l2⟩ b1 n1' d1 b2 n2' d2) ∧ True ∧ (∀ k, (Value.slice b1 n1' d1).ownBlock = some k → U.heap.size ≤ k) ∧ (∀ k, (Value.slice b2 n2' d2).ownBlock = some k → (Value.slice a2 m2 c2).ownBlock = some k) := by
        rcases hres with ⟨hk1, rfl⟩ | ⟨hk1, a7, m7, c7, rfl, hI⟩
        · exact ⟨4, kk', none, 0, 0, q, 0, none, 0, 0, rfl, ⟨[], [], ctrO_1 q hk1, ⟨io_nil _ _, io_nil _ _, fun k h => by simp [Value.ownBlock] at h⟩⟩, trivial, fun k h => by simp [Value.ownBlock] at h, fun k h => by simp [Value.ownBlock] at h⟩
        · have hfr : ∀ k, (Value.slice a7 m7 c7).ownBlock = some k → U.heap.size ≤ k := fun k h => (hI.lt k h).1
          have hold : ∀ k, (Value.slice a2 m2 c2).ownBlock = some k → k < U.heap.size := fun k h => Nat.lt_trans ((Hx6.out.i2.lt k h).2) HsU.out
          have hbU : base ≤ U.heap.size := by have h1 := (HOlt.out g rfl).2; have h2 := sO.out; have h3 := HsU.out; have h4 := Hbg.out; omega
          exact ⟨kd, kk', a7, m7, c7, qq, bb, a2, m2, c2, rfl, ⟨q :: ctl, cnd, ctrO_2 q hk1, ⟨hI.down hbU, (Hx6.out.i2.ext HEU.out).ext he4, fun k h1 h2 => by have := hfr k h1; have := hold k h2; omega⟩⟩, trivial, hfr, fun k h => h⟩
      obtain ⟨l1, l2, hgn, hON⟩ := hgn
      go_wp2_with fail
      refine hKk.out _ _ (fun _ => ⟨cell_ext v2 he4, cell_ext e0 he4, cell_ext e1 he4, cell_ext e2 he4, cell_ext e3 he4, cell_ext e4 he4, cell_ext e5 he4⟩) ?_
      clear hKk Kk
      simp only [List.setIfInBounds_toArray, List.set_cons_zero, List.set_cons_succ]
      have hHeld : w4.cell? ⟨Ob, 2, none⟩ = some (.slice (some ⟨g, 0, none⟩) n cv) ∧ w4.cell? ⟨Bx, 0, none⟩ = some (.int .i64 kd) ∧ w4.cell? ⟨Bx, 1, none⟩ = some (.int .i64 kk') ∧ w4.cell? ⟨Bx, 2, none⟩ = some (.slice a1 m1 c1) ∧ w4.cell? ⟨Bx, 3, none⟩ = some (.int .i64 qq) ∧ w4.cell? ⟨Bx, 4, none⟩ = some (.int .i64 bb) ∧ w4.cell? ⟨Bx, 5, none⟩ = some (.slice a2 m2 c2) := ⟨cell_ext v2 he4, cell_ext e0 he4, cell_ext e1 he4, cell_ext e2 he4, cell_ext e3 he4, cell_ext e4 he4, cell_ext e5 he4⟩
      refine anyK_take (i := 6) (v := ?_) rfl (by kernel_rfl) (by kernel_rfl) (by kernel_rfl) (N := 8) (by kernel_rfl) (by kernel_rfl) (by kernel_rfl) (fun _ _ _ h => h) (Or.inl ⟨by rfl, ?_⟩) hHeld ?_
      rotate_left 1
      · intro w hSw
        go_simp
        try with_reducible rfl
      show anyK _ _ _ _ _ _ _ _ (Act.put _ (some 67) _) _
      simp only [Act.put, List.setIfInBounds_toArray, List.set_cons_zero, List.set_cons_succ]
      clear hHeld
      have hrw4 := Hrw.out w4 he4
      have ce4 : ∀ (k : Nat) (v : Value), cur[k]? = some v → w4.cell? ⟨g, k, none⟩ = some v := fun k v e => by rw [cell_of_row w4 g k cur _ (0, 0) hrw4]; exact e
      have hlt6 : ∀ j, j < n * 6 → ∃ v, cur[j]? = some v := fun j hj => ⟨cur[j]'(by rw [Hsz.out]; have := Hnc.out; omega), Array.getElem?_eq_getElem _⟩
      obtain ⟨z0, hz0⟩ := hlt6 (i * 6) (by omega)
      obtain ⟨z1, hz1⟩ := hlt6 (i * 6 + 1) (by omega)
      obtain ⟨z2, hz2⟩ := hlt6 (i * 6 + 2) (by omega)
      obtain ⟨z3, hz3⟩ := hlt6 (i * 6 + 3) (by omega)
      obtain ⟨z4, hz4⟩ := hlt6 (i * 6 + 4) (by omega)
      obtain ⟨z5, hz5⟩ := hlt6 (i * 6 + 5) (by omega)
      refine anyK_one (i := 7) (by kernel_rfl) rfl (fun Kk hKk => ?_)
      refine stepK_storeO rfl rfl _ _ rfl g (i * 6) y0 y1 b1 n1' d1 y3 y4 b2 n2' d2 z0 z1 z2 z3 z4 z5 rfl rfl (ce4 _ _ hz0) (ce4 _ _ hz1) (ce4 _ _ hz2) (ce4 _ _ hz3) (ce4 _ _ hz4) (ce4 _ _ hz5) (fun k => frozen_of_row w4 g k _ _ hrw4) ?_
      refine hKk.out _ _ (fun h => Bool.noConfusion (show true = false from h)) ?_
      clear hKk Kk
      simp only [List.setIfInBounds_toArray, List.set_cons_zero, List.set_cons_succ]
      refine anyK_done (by kernel_rfl) ?_ _
      obtain ⟨W8, hW8⟩ : ∃ W8, putAt w4 g (i * 6) (opF ⟨y0, y1, l1, y3, y4, l2⟩ b1 n1' d1 b2 n2' d2) = W8 := ⟨_, rfl⟩
      have hO8 := putAt_only w4 g (i * 6) (opF ⟨y0, y1, l1, y3, y4, l2⟩ b1 n1' d1 b2 n2' d2)
      have hr8 := putAt_row (p := i * 6) (opF ⟨y0, y1, l1, y3, y4, l2⟩ b1 n1' d1 b2 n2' d2) hrw4
      rw [hW8] at hO8 hr8
      have hki := only_ints hrw4 (by decide) hO8
      have hrow4 : RowF w4 base (fun p => cur[p]?) (mapF (ctrO q) ops i) := Hrow.out.map (fun _ _ _ _ _ _ _ o => (o.ext HEU.out).ext he4)
      have hrow8 := rowF_set (w' := W8) Hl.out (by omega) (by rw [Hsz.out]; have := Hnc.out; omega) hrow4 Hg.out hgn (fun t x _ _ _ _ _ _ _ _ _ _ o => o.keep hki) (hON.keep hki)
      have hbl : ∀ p u k, p < n * 6 → cur[p]? = some u → u.ownBlock = some k → k < U.heap.size := fun p u k hp hu hk => Nat.lt_trans (Hrow.out.blocks (by rw [mapF_len, Hl.out]; exact hp) hu hk).2.1 HsU.out
      have hsep8 := sepF_set (g' := ⟨y0, y1, l1, y3, y4, l2⟩) (b1 := b1) (m1 := n1') (d1 := d1) (b2 := b2) (m2 := n2') (d2 := d2) (show i < n by omega) (by rw [Hsz.out]; have := Hnc.out; omega) Hsep.out (fun k p u hk hp _ hu he => by have h1 := hfr k hk; have h2 := hbl p u k hp hu he; omega) (fun k p u hk hp hpi hu he => by
        have h1 := Hsep.out p (i * 6 + 5) k u _ hp (by omega) hu Hx5.out he (hsm k hk)
        omega) hON.ne
      have Hown8 := Lib.hid (opsN_close (base := base) (n := n) (c := cv) (by rw [mapF_len]; exact Hl.out) Hbg.out hr8 Hnc.out Hcm.out (by rw [set6_size]; exact Hsz.out) hsep8 hrow8)
      have gOb := (HOlt.out g rfl).2
      have gb := Hbb.out
      have gbg := Hbg.out
      have HR8 := Lib.hid ((HbR.out.ext he4).kept hO8 (by omega)); have HF8 := Lib.hid ((HbF.out.ext he4).kept hO8 (by omega)); have HO8 := Lib.hid ((HbO'.out.ext he4).kept hO8 (by omega))
      have HX8 := Lib.hid (ext_only (HXU.out.trans he4) hO8 (by omega))
      have Hs8 := Lib.hid (show Ob < W8.heap.size by rw [hO8.size]; have h1 := he4.size; have h2 := sO.out; have h3 := HsU.out; omega)
      have HW8 := Lib.hid (show ((((((w4.setCell ⟨g, i * 6, none⟩ (.int .i64 y0)).setCell ⟨g, i * 6 + 1, none⟩ (.int .i64 y1)).setCell ⟨g, i * 6 + 2, none⟩ (.slice b1 n1' d1)).setCell ⟨g, i * 6 + 3, none⟩ (.int .i64 y3)).setCell ⟨g, i * 6 + 4, none⟩ (.int .i64 y4)).setCell ⟨g, i * 6 + 5, none⟩ (.slice b2 n2' d2)) = W8 from hW8)
      clear hW8 hO8 hr8 hki hrow4 hrow8 hbl hsep8 hrw4 ce4 hlt6 hz0 hz1 hz2 hz3 hz4 hz5 hON hgn hfr hsm hx4 he4 hE0d v2 e0 e1 e2 e3 e4 e5 gOb gb gbg
      rw [HW8.out]
      go_wp2_with fail
      go_roundg (n - (i + 1))
      case measure => have := Hk.out; omega
      case rel => exact ⟨i + 1, by go_num, by omega, rfl, HR8.out, HF8.out, HO8.out, Hown8.out, HX8.out, Hs8.out⟩

end Go.Proofs.YtapolidgocfbjaaDoor
namespace Go.Proofs.YtapolidgocfbjaaDoor
open Go.RowKit

def tq (tl : List Int) (q : Int) : Int := tl.getD q.toNat 0
/-- An operation on the qubits' new numbers. -/
def movO (tl : List Int) (g : Gop) : Gop := ⟨g.kind, g.k, g.ctl.map (tq tl), if g.kind = 1 then g.q else tq tl g.q, g.bit, g.cnd⟩
/-- The first place where the new numbers are none. -/
def mpF (m : Int) (tl : List Int) : Nat → List Int → Int × Int
  | _, [] => (0, 0)
  | i, x :: r => if below x m = false ∨ x ∈ tl.take i then (17, (i : Int)) else mpF m tl (i + 1) r
def movF (c : Gci) (tl : List Int) (m : Int) : Int × Int :=
  if (chk c).1 ≠ 0 then chk c else if m < 1 ∨ 12 < m then (6, 0) else if (tl.length : Int) ≠ c.qubits then (17, 0) else mpF m tl 0 tl
def movM (c : Gci) (tl : List Int) (m : Int) : (Int × Int) × Gci := if (movF c tl m).1 ≠ 0 then (movF c tl m, noC) else ((0, 0), ⟨m, c.bits, c.ops.map (movO tl)⟩)
theorem mpF_step (m : Int) (tl : List Int) (i : Nat) (h : i < tl.length) : mpF m tl i (tl.drop i) = if below (tl.getD i 0) m = false ∨ tl.getD i 0 ∈ tl.take i then (17, (i : Int)) else mpF m tl (i + 1) (tl.drop (i + 1)) := by
  have h3 : tl.getD i 0 = tl[i] := by rw [List.getD_eq_getElem?_getD, List.getElem?_eq_getElem h]; rfl
  rw [List.drop_eq_getElem_cons h, mpF, h3]
theorem mpF_end (m : Int) (tl : List Int) (i : Nat) (h : tl.length ≤ i) : mpF m tl i (tl.drop i) = (0, 0) := by
  rw [List.drop_eq_nil_of_le h]; rfl
theorem movM_no {c : Gci} {tl : List Int} {m u v : Int} (h : movF c tl m = (u, v)) (hu : u ≠ 0) : movM c tl m = ((u, v), noC) := by
  unfold movM
  rw [h, if_pos hu]
theorem movM_yes {c : Gci} {tl : List Int} {m : Int} (h : movF c tl m = (0, 0)) : movM c tl m = ((0, 0), ⟨m, c.bits, c.ops.map (movO tl)⟩) := by
  unfold movM
  rw [h, if_neg (by simp)]
theorem q_below {g : Gop} {n b : Int} (h : opCode g n b = 0) (hk : ¬ g.kind = 1) : 0 ≤ g.q ∧ g.q < n := by
  unfold opCode at h
  split at h
  · omega
  split at h
  · omega
  split at h
  · omega
  · next h3 =>
    have hu : usesQ g.kind = true := by unfold usesQ; simp [hk]
    unfold fitsB at h3
    rw [hu, if_pos rfl] at h3
    exact below_iff.1 (by simpa using h3)

/-- A number of a list is written over. -/
theorem Iow.put {w : World} {base g n c i : Nat} {l : List Int} (h : Iow w base (some ⟨g, 0, none⟩) n c l) (_hi : i < n) (v : Int) : Iow (w.setCell ⟨g, i, none⟩ (.int .i64 v)) base (some ⟨g, 0, none⟩) n c (l.set i v) := by
  obtain ⟨h1, h2⟩ := h
  refine ⟨by rw [iC_length, List.length_set]; simpa [iC] using h1, ?_⟩
  rcases h2 with ⟨e, _⟩ | ⟨g', cap, cur, e, hb, hg, hn, hm, hs, ht⟩
  · injection e with e1; cases e1
  · injection e with e1 e2 e3
    cases e1
    subst e3
    refine Or.inr ⟨g, c, cur.setIfInBounds i (.int .i64 v), rfl, hb, row_put hg rfl, hn, hm, by simpa using hs, ?_⟩
    rw [Array.toList_setIfInBounds, List.take_set, ht]
    unfold iC
    rw [List.map_set]
theorem Iow.cell {w : World} {base g n c : Nat} {l : List Int} (h : Iow w base (some ⟨g, 0, none⟩) n c l) (i : Nat) (hi : i < n) : w.cell? ⟨g, i, none⟩ = some (.int .i64 (l.getD i 0)) ∧ w.frozen? ⟨g, i, none⟩ = false ∧ ∃ cs, w.heap[g]? = some (.cells cs 3 (0, 0)) := by
  obtain ⟨_, _, h3, _⟩ := h.ints
  obtain ⟨b, o, e, _, hc⟩ := h3.at (by omega)
  cases e
  have h4 := hc i hi
  rw [Nat.zero_add] at h4
  rcases h.2 with ⟨e, _⟩ | ⟨g', cap, cur, e, hb, hg, _⟩
  · injection e with e1; cases e1
  · injection e with e1
    cases e1
    exact ⟨h4, frozen_of_row w g i _ _ hg, cur, hg⟩
theorem Iow.addr {w : World} {base n c : Nat} {a : Option Addr} {l : List Int} (h : Iow w base a n c l) (hn : 0 < n) : ∃ g, a = some ⟨g, 0, none⟩ := by
  rcases h.2 with ⟨_, e⟩ | ⟨g, cap, cur, e, _⟩
  · omega
  · injection e with e1; exact ⟨g, e1⟩
/-- The first j of them are turned by f. -/
def mapI (f : Int → Int) (l : List Int) (j : Nat) : List Int := (l.take j).map f ++ l.drop j
theorem mapI_len (f : Int → Int) (l : List Int) (j : Nat) : (mapI f l j).length = l.length := by
  unfold mapI
  simp only [List.length_append, List.length_map, List.length_take, List.length_drop]
  omega
theorem mapI_zero (f : Int → Int) (l : List Int) : mapI f l 0 = l := by simp [mapI]
theorem mapI_all {f : Int → Int} {l : List Int} {j : Nat} (h : l.length ≤ j) : mapI f l j = l.map f := by
  unfold mapI
  rw [List.take_of_length_le h, List.drop_eq_nil_of_le h, List.append_nil]
theorem mapI_get {f : Int → Int} {l : List Int} {j : Nat} (h : j < l.length) : (mapI f l j).getD j 0 = l.getD j 0 := by
  unfold mapI
  rw [List.getD_eq_getElem?_getD, List.getElem?_append_right (by rw [List.length_map, List.length_take]; omega), List.length_map, List.length_take, List.getElem?_drop, List.getD_eq_getElem?_getD]
  congr 2; omega
theorem mapI_set {f : Int → Int} {l : List Int} {j : Nat} (h : j < l.length) : (mapI f l j).set j (f (l.getD j 0)) = mapI f l (j + 1) := by
  have h3 : l.getD j 0 = l[j] := by rw [List.getD_eq_getElem?_getD, List.getElem?_eq_getElem h]; rfl
  unfold mapI
  have hl : ((l.take j).map f).length = j := by rw [List.length_map, List.length_take]; omega
  rw [List.set_append_right _ _ (by omega), hl, Nat.sub_self, List.drop_eq_getElem_cons h, List.set_cons_zero, List.take_add_one, List.getElem?_eq_getElem h, List.map_append, h3]
  simp

/-- A row whose operations are taken one by one. -/
theorem mapF_set {f : Gop → Gop} {ops : List Gop} {i : Nat} {g : Gop} (h : ops[i]? = some g) : (mapF f ops i).set i (f g) = mapF f ops (i + 1) := by
  obtain ⟨hi, e⟩ := List.getElem?_eq_some_iff.1 h
  unfold mapF
  have hl : ((ops.take i).map f).length = i := by rw [List.length_map, List.length_take]; omega
  rw [List.set_append_right _ _ (by omega), hl, Nat.sub_self, List.drop_eq_getElem_cons hi, List.set_cons_zero, List.take_add_one, h, List.map_append]
  simp
/-- An operation's list is written over: the other lists lie elsewhere. -/
theorem rowF_list {w w' : World} {base : Nat} {f : Nat → Option Value} {L : List Gop} {n i : Nat} {g' : Gop} {a1 : Option Addr} {n1 c1 : Nat} {a2 : Option Addr} {n2 c2 : Nat} (hl : L.length = n) (hS : SepF (n * 6) f) (h : RowF w base f L) (hi : i < n) (hgn : OpN w' base g' a1 n1 c1 a2 n2 c2)
    (f0 : f (i * 6) = some (.int .i64 g'.kind)) (f1 : f (i * 6 + 1) = some (.int .i64 g'.k)) (f2 : f (i * 6 + 2) = some (.slice a1 n1 c1)) (f3 : f (i * 6 + 3) = some (.int .i64 g'.q)) (f4 : f (i * 6 + 4) = some (.int .i64 g'.bit)) (f5 : f (i * 6 + 5) = some (.slice a2 n2 c2))
    (hk : ∀ k, k < w.heap.size → (Value.slice a1 n1 c1).ownBlock ≠ some k → w'.heap[k]? = w.heap[k]?) : RowF w' base f (L.set i g') := by
  intro t x hx
  have ht : t < n := by have := (List.getElem?_eq_some_iff.1 hx).1; rw [List.length_set, hl] at this; exact this
  by_cases e : t = i
  · subst e
    rw [List.getElem?_set_self (by omega)] at hx
    injection hx with hx
    subst hx
    exact ⟨a1, n1, c1, a2, n2, c2, f0, f1, f2, f3, f4, f5, hgn⟩
  · rw [List.getElem?_set_ne (fun h => e h.symm)] at hx
    obtain ⟨x1, x2, x3, x4, x5, x6, y0, y1, y2, y3, y4, y5, y6⟩ := h t x hx
    refine ⟨x1, x2, x3, x4, x5, x6, y0, y1, y2, y3, y4, y5, ⟨y6.i1.keep1 (fun k hk1 => hk k (y6.i1.lt k hk1).2 (fun e2 => ?_)), y6.i2.keep1 (fun k hk1 => hk k (y6.i2.lt k hk1).2 (fun e2 => ?_)), y6.ne⟩⟩
    · have := hS (t * 6 + 2) (i * 6 + 2) k _ _ (by omega) (by omega) y2 f2 hk1 e2; omega
    · have := hS (t * 6 + 5) (i * 6 + 2) k _ _ (by omega) (by omega) y5 f2 hk1 e2; omega

set_option maxHeartbeats 4000000 in
set_option maxRecDepth 100000 in
theorem move_any (o : Gop) (a1 : Option Addr) (n1 c1 : Nat) (a2 : Option Addr) (n2 c2 base : Nat) (tl : List Int) (ta : Option Addr) (tn tc : Nat) (w wt : World) (h : Iow w base a1 n1 c1 o.ctl) (ht : IntsAt wt ta tn tl) (htw : Ext wt w) (hbt : wt.heap.size ≤ base) (_htc : tn ≤ tc) (_htm : tc ≤ 9223372036854775807) (hn : n1 ≤ 1000)
    (h1 : 1 ≤ o.kind) (h6 : o.kind ≤ 6) (hq : ¬ o.kind = 1 → 0 ≤ o.q ∧ o.q < (tn : Int)) (hcl : ∀ x ∈ o.ctl, 0 ≤ x ∧ x < (tn : Int)) (hS : Shp w) :
    Calls Tryd.prog 39 #[.agg #[.int .i64 o.kind, .int .i64 o.k, .slice a1 n1 c1, .int .i64 o.q, .int .i64 o.bit, .slice a2 n2 c2], .slice ta tn tc] w fun e w' =>
      e = .returned (.agg #[.int .i64 o.kind, .int .i64 o.k, .slice a1 n1 c1, .int .i64 (movO tl o).q, .int .i64 o.bit, .slice a2 n2 c2]) ∧ Iow w' base a1 n1 c1 (movO tl o).ctl ∧ w.grownBy w' (Value.slice a1 n1 c1).ownBlock := by
  obtain ⟨kd, k, ctl, qq, bb, cnd⟩ := o
  unfold movO
  simp only at h h1 h6 hq hcl ⊢
  obtain ⟨kn, rfl⟩ : ∃ m : Nat, kd = (m : Int) := ⟨kd.toNat, by omega⟩
  obtain ⟨q', hq'⟩ : ∃ y, (if (kn : Int) = 1 then qq else tq tl qq) = y := ⟨_, rfl⟩
  rw [hq']
  obtain ⟨H, hH⟩ : ∃ H, w.heap.size = H := ⟨_, rfl⟩
  obtain ⟨A1, hA1⟩ : ∃ A1, w.alloc (.cells #[.int .i64 (kn : Int), .int .i64 k, .slice a1 n1 c1, .int .i64 qq, .int .i64 bb, .slice a2 n2 c2] 43) = A1 := ⟨_, rfl⟩
  obtain ⟨A2, hA2⟩ : ∃ A2, A1.alloc (.cells #[.int .i64 0, .int .i64 0, .slice none 0 0, .int .i64 0, .int .i64 0, .slice none 0 0] 43) = A2 := ⟨_, rfl⟩
  have s1 : A1.heap.size = H + 1 := by rw [← hA1, ← hH]; simp
  have s2 : A2.heap.size = H + 2 := by rw [← hA2]; simp; omega
  have x1 : Ext w A1 := by rw [← hA1]; exact ext_al _ _
  have x2 : Ext A1 A2 := by rw [← hA2]; exact ext_al _ _
  have bx : OpBx A2 H (kn : Int) k a1 n1 c1 qq bb a2 n2 c2 := by
    have : OpBx A1 H (kn : Int) k a1 n1 c1 qq bb a2 n2 c2 := by rw [← hA1, ← hH]; exact opbx_new w _ k a1 n1 c1 qq bb a2 n2 c2
    exact this.ext x2
  have br : OpBx A2 (H + 1) 0 0 none 0 0 0 0 none 0 0 := by rw [← hA2, ← s1]; exact opbx_new A1 0 0 none 0 0 0 0 none 0 0
  have hA : (w.alloc (.cells #[.int .i64 (kn : Int), .int .i64 k, .slice a1 n1 c1, .int .i64 qq, .int .i64 bb, .slice a2 n2 c2] 43)).alloc (.cells #[.int .i64 0, .int .i64 0, .slice none 0 0, .int .i64 0, .int .i64 0, .slice none 0 0] 43) = A2 := by rw [hA1, hA2]
  have E0 := x1.trans x2
  have sh2 := cell_ext (hS kn (by omega) (by omega)).2.2.1 E0
  have Hl := Lib.hid (show ctl.length = n1 from h.ints.2.2.1.1)
  have Hlt1 := Lib.hid (show ∀ k, (Value.slice a1 n1 c1).ownBlock = some k → base ≤ k ∧ k < H from fun k hk => by have := h.lt k hk; rw [hH] at this; exact this)
  have HA := Lib.hid hA; have HE0 := Lib.hid E0; have Hbx := Lib.hid bx; have Hbr := Lib.hid br; have HI := Lib.hid (h.ext E0); have Hs2 := Lib.hid s2; have HhH := Lib.hid hH
  have Ht := Lib.hid ht; have HtwW := Lib.hid htw; have Htw := Lib.hid (htw.trans E0); have Hq' := Lib.hid hq'; have Hq := Lib.hid hq; have Hcl := Lib.hid hcl; have Hbt := Lib.hid hbt
  have i0 : (0 : Int) ≤ (kn : Int) := by omega
  have i1 : (kn : Int) < 7 := by omega
  obtain ⟨uq, huq⟩ : ∃ y, usesQ (kn : Int) = y := ⟨_, rfl⟩
  rw [huq] at sh2
  have Huq := Lib.hid (show uq = !((kn : Int) == 1) from huq.symm)
  clear h ht htw hq hcl hS h1 h6 hA1 hA2 s1 s2 x1 x2 bx br hA E0 hq' huq hbt
  go_enter Tryd.func39, Tryd.ntmps39
  go_upto_region 1 with fail
  rw [HA.out]
  have m0 := Hbx.out.x0
  go_upto_if 11 with fail
  go_cut [] from 7 to 17 (fun wx => OpBx wx H (kn : Int) k a1 n1 c1 q' bb a2 n2 c2 ∧ Only H A2 wx)
  case first =>
    have m3 := Hbx.out.x3; have f3 := Hbx.out.f 3
    by_cases hk : (kn : Int) = 1
    · have hu := Huq.out
      rw [eq_t hk] at hu
      subst hu
      have hqe := Hq'.out
      rw [if_pos hk] at hqe
      have Hqe := Lib.hid hqe
      clear hk hqe
      go_wp2_with fail
      go_meet
      exact ⟨by rw [← Hqe.out]; exact Hbx.out, Only.refl _ _⟩
    · have hu := Huq.out
      rw [bf' hk] at hu
      subst hu
      have hqe := Hq'.out
      rw [if_neg hk] at hqe
      obtain ⟨hq0, hq1⟩ := Hq.out hk
      obtain ⟨qn, rfl⟩ : ∃ m : Nat, qq = (m : Int) := ⟨qq.toNat, by omega⟩
      obtain ⟨tb, tof, rfl, htb, htc'⟩ := (Ht.out.ext Htw.out).at (by omega)
      have t3 := htc' qn (by omega)
      have htv : tl.getD qn 0 = q' := by rw [← hqe]; rfl
      rw [htv] at t3
      have HO := Lib.hid (only1 A2 H 3 (.int .i64 q'))
      have Hb3 := Lib.hid (show OpBx (A2.setCell ⟨H, 3, none⟩ (.int .i64 q')) H (kn : Int) k a1 n1 c1 q' bb a2 n2 c2 from ⟨heap_setCell_same A2 H 3 _ _ (.int .i64 q') Hbx.out.row⟩)
      clear htc' hk hqe htv htb
      go_wp2_with fail
      go_meet
      exact ⟨Hb3.out, HO.out⟩
  case rest =>
  obtain ⟨bx, hOn⟩ := hcut
  have hsz := Hs2.out
  have HIc := Lib.hid (HI.out.keep (only_ints Hbx.out.row (by decide) hOn))
  have Hbr2 := Lib.hid (show OpBx wc (H + 1) 0 0 none 0 0 0 0 none 0 0 from ⟨(hOn.block _ (by omega)).trans Hbr.out.row⟩)
  have Hgr := Lib.hid (show w.grownBy wc (Value.slice a1 n1 c1).ownBlock from ⟨hOn.os.trans HE0.out.os, hOn.tape.trans HE0.out.tape, hOn.output.trans HE0.out.output, by rw [hOn.size]; exact HE0.out.size, fun k hk _ => (hOn.block k (by omega)).trans (HE0.out.block k hk)⟩)
  have m2 := bx.x2
  have Hbx2 := Lib.hid bx
  have Hsc := Lib.hid (show wc.heap.size = H + 2 by rw [hOn.size]; exact hsz)
  clear bx hOn HI Hbr Hbx HE0 m0 sh2 hsz
  go_wp2_with fail
  clear m2
  go_loopg [5, 6, 21] n1 (fun kk s5 s6 s21 wx => ∃ i : Nat, s21 = .int .i64 (i : Int) ∧ i ≤ n1 ∧ n1 - i = kk ∧ OpBx wx H (kn : Int) k a1 n1 c1 q' bb a2 n2 c2 ∧ OpBx wx (H + 1) 0 0 none 0 0 0 0 none 0 0 ∧ Iow wx base a1 n1 c1 (mapI (tq tl) ctl i) ∧ w.grownBy wx (Value.slice a1 n1 c1).ownBlock ∧ H + 2 ≤ wx.heap.size)
  case atStart => exact ⟨0, rfl, by omega, by omega, Hbx2.out, Hbr2.out, by rw [mapI_zero]; exact HIc.out, Hgr.out, by rw [Hsc.out]; exact Nat.le_refl _⟩
  case round =>
    clear Hbx2 Hbr2 HIc Hgr
    obtain ⟨i, rfl, hin', hk, bx, br, hI, hgr, hsz⟩ := hrel
    by_cases hin : i = n1
    · have q1 : ¬ (i : Int) < (n1 : Int) := by omega
      have q1' : decide ((i : Int) < (n1 : Int)) = false := df q1
      rw [mapI_all (by rw [Hl.out]; omega)] at hI
      have m0 := bx.x0; have m1 := bx.x1; have m2 := bx.x2; have m3 := bx.x3; have m4 := bx.x4; have m5 := bx.x5
      have r0 := br.x0; have r1 := br.x1; have r2 := br.x2; have r3 := br.x3; have r4 := br.x4; have r5 := br.x5
      have g0 := br.f 0; have g1 := br.f 1; have g2 := br.f 2; have g3 := br.f 3; have g4 := br.f 4; have g5 := br.f 5
      have hO := onl6 wr (H + 1) (.int .i64 (kn : Int)) (.int .i64 k) (.slice a1 n1 c1) (.int .i64 q') (.int .i64 bb) (.slice a2 n2 c2)
      have Hbz := Lib.hid (br.store (kn : Int) k a1 n1 c1 q' bb a2 n2 c2)
      have HIz := Lib.hid (hI.keep (only_ints br.row (by decide) hO))
      have Hgz := Lib.hid (show w.grownBy _ (Value.slice a1 n1 c1).ownBlock from ⟨hO.os.trans hgr.os, hO.tape.trans hgr.tape, hO.output.trans hgr.output, by rw [hO.size]; exact hgr.size, fun k hk he => (hO.block k (by omega)).trans (hgr.block k hk he)⟩)
      clear bx br hI hgr hsz hO hin hin' hk
      go_wp2_with fail
      generalize (((((wr.setCell ⟨H + 1, 0, none⟩ (.int .i64 (kn : Int))).setCell ⟨H + 1, 1, none⟩ (.int .i64 k)).setCell ⟨H + 1, 2, none⟩ (.slice a1 n1 c1)).setCell ⟨H + 1, 3, none⟩ (.int .i64 q')).setCell ⟨H + 1, 4, none⟩ (.int .i64 bb)).setCell ⟨H + 1, 5, none⟩ (.slice a2 n2 c2) = Wz at *
      have z0 := Hbz.out.x0; have z1 := Hbz.out.x1; have z2 := Hbz.out.x2; have z3 := Hbz.out.x3; have z4 := Hbz.out.x4; have z5 := Hbz.out.x5
      exact bodyPost_ret (v := .agg #[.int .i64 (kn : Int), .int .i64 k, .slice a1 n1 c1, .int .i64 q', .int .i64 bb, .slice a2 n2 c2]) (by simp [results, Tryd.results39, go_sem, z0, z1, z2, z3, z4, z5]) rfl ⟨rfl, HIz.out, Hgz.out⟩
    · have q1 : (i : Int) < (n1 : Int) := by omega
      have q1' : decide ((i : Int) < (n1 : Int)) = true := dt q1
      have p0 : (0 : Int) ≤ (i : Int) := by omega
      obtain ⟨g1, rfl⟩ := hI.addr (by omega)
      obtain ⟨c0, f0, cs, hcs⟩ := hI.cell i (by omega)
      rw [mapI_get (by rw [Hl.out]; omega)] at c0
      obtain ⟨x, hx⟩ : ∃ y, ctl.getD i 0 = y := ⟨_, rfl⟩
      have hxm : x ∈ ctl := by
        rw [← hx, List.getD_eq_getElem?_getD, List.getElem?_eq_getElem (by rw [Hl.out]; omega)]
        exact List.getElem_mem _
      obtain ⟨hx0, hx1⟩ := Hcl.out x hxm
      obtain ⟨xn, rfl⟩ : ∃ m : Nat, x = (m : Int) := ⟨x.toNat, by omega⟩
      rw [hx] at c0
      obtain ⟨tb, tof, rfl, htb, htc'⟩ := Ht.out.at (by omega)
      obtain ⟨hg1b, hg1H⟩ := Hlt1.out g1 rfl
      have t0 : wr.cell? ⟨tb, tof + xn, none⟩ = some (.int .i64 (tl.getD xn 0)) := by
        have h1 := htc' xn (by omega)
        have h2 := cell_ext h1 HtwW.out
        exact hgr.cell h2 (fun e => by have e' : tb = g1 := Option.some.inj e; have := Hbt.out; omega)
      obtain ⟨v, hv⟩ : ∃ y, tl.getD xn 0 = y := ⟨_, rfl⟩
      have hvt : tq tl (ctl.getD i 0) = v := by rw [hx]; exact hv
      rw [hv] at t0
      have hIs := hI.put (i := i) (show i < n1 by omega) v
      rw [← hvt, mapI_set (by rw [Hl.out]; omega), hvt] at hIs
      have hO := only1 wr g1 i (.int .i64 v)
      have HIz := Lib.hid (hIs.ext (cdrew (Ext.refl _)))
      have nH : H ≠ g1 := by omega
      have nH1 : H + 1 ≠ g1 := by omega
      have bz : OpBx (wr.setCell ⟨g1, i, none⟩ (.int .i64 v)) H (kn : Int) k (some ⟨g1, 0, none⟩) n1 c1 q' bb a2 n2 c2 := ⟨(hO.block _ nH).trans bx.row⟩
      have rz : OpBx (wr.setCell ⟨g1, i, none⟩ (.int .i64 v)) (H + 1) 0 0 none 0 0 0 0 none 0 0 := ⟨(hO.block _ nH1).trans br.row⟩
      have Hbz := Lib.hid (bz.ext (cdrew (Ext.refl _))); have Hrz := Lib.hid (rz.ext (cdrew (Ext.refl _)))
      have Hgz := Lib.hid (show w.grownBy (wr.setCell ⟨g1, i, none⟩ (.int .i64 v)).drew (Value.slice (some ⟨g1, 0, none⟩) n1 c1).ownBlock from ⟨hO.os.trans hgr.os, hO.tape.trans hgr.tape, hO.output.trans hgr.output, by show w.heap.size ≤ (wr.setCell ⟨g1, i, none⟩ (.int .i64 v)).heap.size; rw [hO.size]; exact hgr.size, fun k hk he => (hO.block k (fun e => he (by rw [e]; rfl))).trans (hgr.block k hk he)⟩)
      have Hsz := Lib.hid (show H + 2 ≤ (wr.setCell ⟨g1, i, none⟩ (.int .i64 v)).drew.heap.size by show H + 2 ≤ (wr.setCell ⟨g1, i, none⟩ (.int .i64 v)).heap.size; rw [hO.size]; exact hsz)
      have m2 := bx.x2
      have Hk := Lib.hid hk
      clear bx br hI hgr hsz hIs hO bz rz hcs htc' htb hx hxm hv hvt hk hin
      go_upto_region 6 with fail
      go_region
      generalize (wr.setCell ⟨g1, i, none⟩ (.int .i64 v)).drew = Wd at *
      clear c0 f0 t0 m2
      go_wp2_with fail
      go_roundg (n1 - (i + 1))
      case measure => have := Hk.out; omega
      case rel => exact ⟨i + 1, by go_num, by omega, rfl, Hbz.out, Hrz.out, HIz.out, Hgz.out, Hsz.out⟩

end Go.Proofs.YtapolidgocfbjaaDoor
