/-
  The reference's Control. Operations written over in place; the program's usesQubit and control.
-/
import Derived.Test.YtapolidgocfbjaaDoorProg
import Derived.Test.YtapolidgocfbjaaDoorRows
import Derived.BigQuiet
import Derived.Deep.AppendLies
import Derived.Deep.Cut
import Derived.Deep.CutRange
import Derived.Deep.LoopGhost
import Derived.Deep.QuietTactic
import Derived.Deep.RegionHeld3
import Derived.Defers
import Derived.Laws.AppendOwnNone
import Derived.Laws.Bits64b
import Derived.Laws.Concat
import Derived.Laws.CopyOwn
import Derived.Laws.IdiomStrings
import Derived.Laws.ResultCell
import Derived.Lib.AppendStr
import Derived.Lib.AppendZeros
import Derived.Lib.AppendZerosOnto
import Derived.Lib.BitFns
import Derived.Lib.Hide
import Derived.Lib.ItoaMem
import Derived.Lib.ItoaNum
import Derived.Lib.Strings
import Derived.Maps.AppendAt
import Derived.OwnWalk
import Derived.Recover
import Derived.Shelf.LaysM
import Derived.Shelf.Strconv.Itoa0
import Derived.Shelf.Strconv.Itoa1
import Derived.Shelf.Strconv.Itoa2
import Derived.Shelf.Strconv.Itoa3
import Derived.Shelf.Strings.Builder1
import Derived.Shelf.Strings.BuilderF
import Derived.Shelf.Strings.BuilderK
import Derived.WalkKit
import Derived.WalkLawsBesides
import Derived.WalkSpells
import Derived.Test.YtapolidgocfbjaaDoorS00Ce
import Derived.Test.YtapolidgocfbjaaDoorS01Cj
import Derived.Test.YtapolidgocfbjaaDoorShelf
import Derived.Test.YtapolidgocfbjaaDoorS03Cq
import Derived.Test.YtapolidgocfbjaaDoorS04Ka
import Derived.Test.YtapolidgocfbjaaDoorS05Jj
import Derived.Test.YtapolidgocfbjaaDoorS06Kl
import Derived.Test.YtapolidgocfbjaaDoorS07Ko
namespace Go.Proofs.YtapolidgocfbjaaDoor
open Go.RowKit

/-- The first operation that uses qubit q already. -/
def clnF (q : Int) : Nat → List Gop → Int × Int
  | _, [] => (0, 0)
  | i, o :: r => if ¬ o.kind = 1 ∧ (o.q = q ∨ q ∈ o.ctl) then (12, (i : Int)) else clnF q (i + 1) r
def ctrO (q : Int) (g : Gop) : Gop := if g.kind = 1 then ⟨4, g.k, [], q, 0, []⟩ else ⟨g.kind, g.k, q :: g.ctl, g.q, g.bit, g.cnd⟩
def ctrF (c : Gci) (q : Int) : Int × Int :=
  if (chk c).1 ≠ 0 then chk c else if q < 0 ∨ c.qubits ≤ q then (10, 0) else if (pur c).1 ≠ 0 then pur c else clnF q 0 c.ops
def ctrM (c : Gci) (q : Int) : (Int × Int) × Gci := if (ctrF c q).1 ≠ 0 then (ctrF c q, noC) else ((0, 0), ⟨c.qubits, c.bits, c.ops.map (ctrO q)⟩)
theorem clnF_step (q : Int) (ops : List Gop) (i : Nat) (g : Gop) (h : ops[i]? = some g) : clnF q i (ops.drop i) = if ¬ g.kind = 1 ∧ (g.q = q ∨ q ∈ g.ctl) then (12, (i : Int)) else clnF q (i + 1) (ops.drop (i + 1)) := by
  obtain ⟨hi, e⟩ := List.getElem?_eq_some_iff.1 h
  rw [List.drop_eq_getElem_cons hi, clnF, e]
theorem clnF_end (q : Int) (ops : List Gop) (i : Nat) (h : ops.length ≤ i) : clnF q i (ops.drop i) = (0, 0) := by
  rw [List.drop_eq_nil_of_le h]; rfl
theorem ctrM_no {c : Gci} {q : Int} {u v : Int} (h : ctrF c q = (u, v)) (hu : u ≠ 0) : ctrM c q = ((u, v), noC) := by
  unfold ctrM
  rw [h, if_pos hu]
theorem ctrM_yes {c : Gci} {q : Int} (h : ctrF c q = (0, 0)) : ctrM c q = ((0, 0), ⟨c.qubits, c.bits, c.ops.map (ctrO q)⟩) := by
  unfold ctrM
  rw [h, if_neg (by simp)]
theorem ctrO_1 {kd k : Int} {ctl cnd : List Int} {x b : Int} (q : Int) (h : kd = 1) : ctrO q ⟨kd, k, ctl, x, b, cnd⟩ = ⟨4, k, [], q, 0, []⟩ := by unfold ctrO; rw [if_pos h]
theorem ctrO_2 {kd k : Int} {ctl cnd : List Int} {x b : Int} (q : Int) (h : ¬ kd = 1) : ctrO q ⟨kd, k, ctl, x, b, cnd⟩ = ⟨kd, k, q :: ctl, x, b, cnd⟩ := by unfold ctrO; rw [if_neg h]
theorem iC_one (l : List Int) : ∀ u ∈ iC l, u.oneCell' = true := fun u hu => by
  unfold iC at hu
  obtain ⟨x, _, rfl⟩ := List.mem_map.1 hu
  rfl
theorem io_nil (w : World) (base : Nat) : Iow w base none 0 0 [] := ⟨rfl, Or.inl ⟨rfl, rfl⟩⟩
theorem OpBx.store {W : World} {g : Nat} {k0 k1 : Int} {a1 : Option Addr} {n1 c1 : Nat} {k3 k4 : Int} {a2 : Option Addr} {n2 c2 : Nat} (h : OpBx W g k0 k1 a1 n1 c1 k3 k4 a2 n2 c2) (j0 j1 : Int) (b1 : Option Addr) (m1 d1 : Nat) (j3 j4 : Int) (b2 : Option Addr) (m2 d2 : Nat) :
    OpBx ((((((W.setCell ⟨g, 0, none⟩ (.int .i64 j0)).setCell ⟨g, 1, none⟩ (.int .i64 j1)).setCell ⟨g, 2, none⟩ (.slice b1 m1 d1)).setCell ⟨g, 3, none⟩ (.int .i64 j3)).setCell ⟨g, 4, none⟩ (.int .i64 j4)).setCell ⟨g, 5, none⟩ (.slice b2 m2 d2)) g j0 j1 b1 m1 d1 j3 j4 b2 m2 d2 :=
  ⟨row_put (row_put (row_put (row_put (row_put (row_put h.row rfl) rfl) rfl) rfl) rfl) rfl⟩

set_option maxHeartbeats 8000000 in
set_option maxRecDepth 100000 in
theorem RControl_U (c : Gci) (ao : Option Addr) (n cp : Nat) (q : Int) (w : World) (h : OpsAt w ao n c.ops) (hn : n ≤ cp) (hcp : cp ≤ 9223372036854775807) :
    Calls Tryd.prog 12 #[.agg #[.int .i64 c.qubits, .int .i64 c.bits, .slice ao n cp], .int .i64 q] w fun e w' => Ans w w' e (ctrM c q) ∧ Ext w w' := by
  obtain ⟨i0, hi, hz0, hz1, hz2⟩ := info_parts op_info
  obtain ⟨j0, hj, hy0, hy1, hy2⟩ := info_parts i_info
  have hl : c.ops.length = n := h.1
  obtain ⟨FC, hFC⟩ : ∃ F, chk c = F := ⟨_, rfl⟩
  obtain ⟨FP, hFP⟩ : ∃ F, pur c = F := ⟨_, rfl⟩
  obtain ⟨R, hR⟩ : ∃ R, ctrM c q = R := ⟨_, rfl⟩
  have hzC : FC.1 = 0 → FC.2 = 0 := fun h => by rw [← hFC] at h ⊢; rw [(chk_zero h).1]
  have hzP : FP.1 = 0 → FP.2 = 0 := fun h => by rw [← hFP] at h ⊢; rw [(pur_zero h).2]
  have hfit : FC.1 = 0 → n ≤ 4096 ∧ ∀ g ∈ c.ops, g.ctl.length ≤ 1000 ∧ g.cnd.length ≤ 1000 := fun h => by
    rw [← hFC] at h
    obtain ⟨_, h1, h2, h3, h4, h5, h6⟩ := chk_zero h
    refine ⟨by omega, fun g hg => ?_⟩
    have f := prFit_of_code h2 h3 h4 (h6 g hg)
    exact ⟨Nat.le_trans f.few (by decide), Nat.le_trans f.cfew (by decide)⟩
  have hR1 : FC.1 ≠ 0 → R = (FC, noC) := fun hh => by
    rw [← hR]; exact ctrM_no (u := FC.1) (v := FC.2) (by unfold ctrF; rw [hFC, if_pos hh]) hh
  have hR2 : FC.1 = 0 → (q < 0 ∨ c.qubits ≤ q) → R = ((10, 0), noC) := fun h1 h2 => by
    rw [← hR]; exact ctrM_no (by unfold ctrF; rw [hFC, if_neg (by simp [h1]), if_pos h2]) (by decide)
  have hR3 : FC.1 = 0 → ¬ (q < 0 ∨ c.qubits ≤ q) → FP.1 ≠ 0 → R = (FP, noC) := fun h1 h2 h3 => by
    rw [← hR]; exact ctrM_no (u := FP.1) (v := FP.2) (by unfold ctrF; rw [hFC, if_neg (by simp [h1]), if_neg h2, hFP, if_pos h3]) h3
  have hR4 : FC.1 = 0 → ¬ (q < 0 ∨ c.qubits ≤ q) → FP.1 = 0 → ∀ t : Int, clnF q 0 c.ops = (12, t) → R = ((12, t), noC) := fun h1 h2 h3 t ht => by
    rw [← hR]; exact ctrM_no (by unfold ctrF; rw [hFC, if_neg (by simp [h1]), if_neg h2, hFP, if_neg (by simp [h3]), ht]) (by decide)
  have hR5 : FC.1 = 0 → ¬ (q < 0 ∨ c.qubits ≤ q) → FP.1 = 0 → clnF q 0 c.ops = (0, 0) → R = ((0, 0), ⟨c.qubits, c.bits, c.ops.map (ctrO q)⟩) := fun h1 h2 h3 ht => by
    rw [← hR]; exact ctrM_yes (by unfold ctrF; rw [hFC, if_neg (by simp [h1]), if_neg h2, hFP, if_neg (by simp [h3]), ht])
  rw [hR]
  clear hR
  obtain ⟨qb, bi, ops⟩ := c
  obtain ⟨uc, vc⟩ := FC
  obtain ⟨up, vp⟩ := FP
  simp only at hzC hzP hfit hl h hR1 hR2 hR3 hR4 hR5 ⊢
  obtain ⟨H, hH⟩ : ∃ H, w.heap.size = H := ⟨_, rfl⟩
  obtain ⟨A1, hA1⟩ : ∃ A1, w.alloc (.cells #[.int .i64 qb, .int .i64 bi, .slice ao n cp] 24) = A1 := ⟨_, rfl⟩
  obtain ⟨A2, hA2⟩ : ∃ A2, A1.alloc (.cells #[.int .i64 0, .int .i64 0, .slice none 0 0] 24) = A2 := ⟨_, rfl⟩
  obtain ⟨A3, hA3⟩ : ∃ A3, A2.alloc (.cells #[.int .i64 0, .int .i64 0] 28) = A3 := ⟨_, rfl⟩
  have s1 : A1.heap.size = H + 1 := by rw [← hA1, ← hH]; simp
  have s2 : A2.heap.size = H + 2 := by rw [← hA2]; simp; omega
  have s3 : A3.heap.size = H + 3 := by rw [← hA3]; simp; omega
  have x1 : Ext w A1 := by rw [← hA1]; exact ext_al _ _
  have x2 : Ext A1 A2 := by rw [← hA2]; exact ext_al _ _
  have x3 : Ext A2 A3 := by rw [← hA3]; exact ext_al _ _
  have bC : CiB A3 H qb bi ao n cp := by
    have : CiB A1 H qb bi ao n cp := by rw [← hA1, ← hH]; exact ⟨heap_alloc_new w _⟩
    exact (this.ext x2).ext x3
  have bR : CiB A3 (H + 1) 0 0 none 0 0 := by
    have : CiB A2 (H + 1) 0 0 none 0 0 := by rw [← hA2, ← s1]; exact ⟨heap_alloc_new A1 _⟩
    exact this.ext x3
  have bF : FtB A3 (H + 2) 0 0 := by rw [← hA3, ← s2]; exact ⟨heap_alloc_new A2 _⟩
  have E0 : Ext w A3 := (x1.trans x2).trans x3
  have hA : ((w.alloc (.cells #[.int .i64 qb, .int .i64 bi, .slice ao n cp] 24)).alloc (.cells #[.int .i64 0, .int .i64 0, .slice none 0 0] 24)).alloc (.cells #[.int .i64 0, .int .i64 0] 28) = A3 := by rw [hA1, hA2, hA3]
  have HK := Lib.hid (RCheck_any ⟨qb, bi, ops⟩ ao n cp A3 (h.ext E0) hn hcp)
  have HKP := Lib.hid (fun wx (hx : Ext w wx) => RPure_any ⟨qb, bi, ops⟩ ao n cp wx (h.ext hx) hn hcp)
  rw [hFC] at HK
  rw [hFP] at HKP
  simp only at HK HKP
  have m0 := bC.x0; have m1 := bC.x1; have m2 := bC.x2
  rw [← hA] at m0 m1 m2
  have HA := Lib.hid hA; have HE0 := Lib.hid E0; have HC := Lib.hid bC; have HR := Lib.hid bR; have HFt := Lib.hid bF
  have Hops := Lib.hid h; have Hfit := Lib.hid hfit; have Hl := Lib.hid hl; have Hs3 := Lib.hid s3; have HhH := Lib.hid hH
  have HzC := Lib.hid hzC; have HzP := Lib.hid hzP; have HR1 := Lib.hid hR1; have HR2 := Lib.hid hR2; have HR3 := Lib.hid hR3; have HR4 := Lib.hid hR4; have HR5 := Lib.hid hR5
  clear h E0 bC bR bF x1 x2 x3 s1 s2 s3 hA1 hA2 hA3 hA hfit hl hFC hFP hzC hzP hR1 hR2 hR3 hR4 hR5
  go_enter Tryd.func12, Tryd.ntmps12
  go_wp2_with fail
  rw [HA.out]
  refine HK.out.mono ?_
  rintro e w1 ⟨rfl, hx1⟩
  have Ef := ext_al w1 (.cells #[.int .i64 uc, .int .i64 vc] 28)
  have bf1 : FtB (w1.alloc (.cells #[.int .i64 uc, .int .i64 vc] 28)) w1.heap.size uc vc := ⟨heap_alloc_new w1 _⟩
  have hX := hx1.trans Ef
  have d0 := bf1.x0; have d1 := bf1.x1
  have HbC := Lib.hid (HC.out.ext hX); have HbR := Lib.hid (HR.out.ext hX); have HbF := Lib.hid (HFt.out.ext hX); have Hbf := Lib.hid bf1; have HbE := Lib.hid (HE0.out.trans hX)
  have Hlo := Lib.hid (show H + 3 ≤ w1.heap.size by have h1 := hx1.size; have h2 := Hs3.out; omega)
  clear hx1 Ef bf1 hX HK HC HR HFt HE0 m0 m1 m2
  go_upto_region 2 with fail
  generalize w1.alloc (.cells #[.int .i64 uc, .int .i64 vc] 28) = W1 at *
  obtain ⟨Fb, hFb⟩ : ∃ y, w1.heap.size = y := ⟨_, rfl⟩
  rw [hFb] at Hbf Hlo d0 d1 ⊢
  have nF1 : Fb ≠ H + 1 := by have := Hlo.out; omega
  have nF2 : Fb ≠ H + 2 := by have := Hlo.out; omega
  clear hFb
  by_cases hu : uc = 0
  rotate_left 1
  · have nu := nt hu; have nb := bf hu
    have HRz := Lib.hid (HR1.out hu)
    clear hu
    have r0 := HbR.out.x0; have r1 := HbR.out.x1; have r2 := HbR.out.x2; have g0 := HbR.out.f 0; have g1 := HbR.out.f 1; have g2 := HbR.out.f 2
    have f0 := HbF.out.x0; have f1 := HbF.out.x1; have k0 := HbF.out.f 0; have k1 := HbF.out.f 1
    have zC := (putCF_C HbR.out (show H + 1 ≠ H + 2 by omega) 0 0 none 0 0 uc vc).drew
    have zF := (putCF_F HbF.out (show H + 1 ≠ H + 2 by omega) 0 0 none 0 0 uc vc).drew
    have zE : Ext w (putCF W1 (H + 1) (H + 2) 0 0 none 0 0 uc vc).drew := Below.drew (putCF_ext HbE.out (show w.heap.size ≤ H + 1 by omega) (show w.heap.size ≤ H + 2 by omega) _ _ _ _ _ _ _)
    obtain ⟨Wz, hWz⟩ : ∃ Wz, putCF W1 (H + 1) (H + 2) 0 0 none 0 0 uc vc = Wz := ⟨_, rfl⟩
    rw [hWz] at zC zF zE
    unfold putCF at hWz
    have HWz := Lib.hid hWz; have HzE := Lib.hid zE
    have v0 := zC.x0; have v1 := zC.x1; have v2 := zC.x2; have v3 := zF.x0; have v4 := zF.x1
    have HAns := Lib.hid (show ∀ e : Ending, e = .returned (.tuple #[.agg #[.int .i64 0, .int .i64 0, .slice none 0 0], .agg #[.int .i64 uc, .int .i64 vc]]) → Ans w Wz.drew e R from fun e he => by rw [HRz.out]; exact Ans.none he)
    clear zC zF zE hWz
    go_upto_region 3 with fail
    go_region
    go_wp2_with fail
    rw [HWz.out]
    exact bodyPost_ret (v := .tuple #[.agg #[.int .i64 0, .int .i64 0, .slice none 0 0], .agg #[.int .i64 uc, .int .i64 vc]]) (by simp [results, Tryd.results12, go_sem, v0, v1, v2, v3, v4]) rfl ⟨HAns.out _ rfl, HzE.out⟩
  have nu := nf' hu
  have Hu := Lib.hid hu
  clear hu
  have l0 := HbC.out.x0; have l1 := HbC.out.x1; have l2 := HbC.out.x2
  by_cases hq0 : q < 0
  · have p1 : decide (q < 0) = true := dt hq0
    have HRz := Lib.hid (HR2.out Hu.out (Or.inl hq0))
    go_wp2_with fail
    refine (rfault_any 10 0 W1).mono ?_
    rintro e w2 ⟨rfl, hx2⟩
    have HbR2 := Lib.hid (HbR.out.ext hx2); have HbF2 := Lib.hid (HbF.out.ext hx2); have HbE2 := Lib.hid (HbE.out.trans hx2)
    clear hx2 HbR HbF HbE HbC Hbf l0 l1 l2 d0 d1
    have HbR := HbR2; have HbF := HbF2; have HbE := HbE2
    have r0 := HbR.out.x0; have r1 := HbR.out.x1; have r2 := HbR.out.x2; have g0 := HbR.out.f 0; have g1 := HbR.out.f 1; have g2 := HbR.out.f 2
    have f0 := HbF.out.x0; have f1 := HbF.out.x1; have k0 := HbF.out.f 0; have k1 := HbF.out.f 1
    have zC := (putCF_C HbR.out (show H + 1 ≠ H + 2 by omega) 0 0 none 0 0 10 0)
    have zF := (putCF_F HbF.out (show H + 1 ≠ H + 2 by omega) 0 0 none 0 0 10 0)
    have zE : Ext w (putCF w2 (H + 1) (H + 2) 0 0 none 0 0 10 0) := (putCF_ext HbE.out (show w.heap.size ≤ H + 1 by omega) (show w.heap.size ≤ H + 2 by omega) _ _ _ _ _ _ _)
    obtain ⟨Wz, hWz⟩ : ∃ Wz, putCF w2 (H + 1) (H + 2) 0 0 none 0 0 10 0 = Wz := ⟨_, rfl⟩
    rw [hWz] at zC zF zE
    unfold putCF at hWz
    have HWz := Lib.hid hWz; have HzE := Lib.hid zE
    have v0 := zC.x0; have v1 := zC.x1; have v2 := zC.x2; have v3 := zF.x0; have v4 := zF.x1
    have HAns := Lib.hid (show ∀ e : Ending, e = .returned (.tuple #[.agg #[.int .i64 0, .int .i64 0, .slice none 0 0], .agg #[.int .i64 10, .int .i64 0]]) → Ans w Wz e R from fun e he => by rw [HRz.out]; exact Ans.none he)
    clear zC zF zE hWz
    go_wp2_with fail
    rw [HWz.out]
    exact bodyPost_ret (v := .tuple #[.agg #[.int .i64 0, .int .i64 0, .slice none 0 0], .agg #[.int .i64 10, .int .i64 0]]) (by simp [results, Tryd.results12, go_sem, v0, v1, v2, v3, v4]) rfl ⟨HAns.out _ rfl, HzE.out⟩
  have p1 : decide (q < 0) = false := df hq0
  by_cases hq1 : qb ≤ q
  · have p2 : decide (qb ≤ q) = true := dt hq1
    have HRz := Lib.hid (HR2.out Hu.out (Or.inr hq1))
    go_wp2_with fail
    refine (rfault_any 10 0 W1).mono ?_
    rintro e w2 ⟨rfl, hx2⟩
    have HbR2 := Lib.hid (HbR.out.ext hx2); have HbF2 := Lib.hid (HbF.out.ext hx2); have HbE2 := Lib.hid (HbE.out.trans hx2)
    clear hx2 HbR HbF HbE HbC Hbf l0 l1 l2 d0 d1
    have HbR := HbR2; have HbF := HbF2; have HbE := HbE2
    have r0 := HbR.out.x0; have r1 := HbR.out.x1; have r2 := HbR.out.x2; have g0 := HbR.out.f 0; have g1 := HbR.out.f 1; have g2 := HbR.out.f 2
    have f0 := HbF.out.x0; have f1 := HbF.out.x1; have k0 := HbF.out.f 0; have k1 := HbF.out.f 1
    have zC := (putCF_C HbR.out (show H + 1 ≠ H + 2 by omega) 0 0 none 0 0 10 0)
    have zF := (putCF_F HbF.out (show H + 1 ≠ H + 2 by omega) 0 0 none 0 0 10 0)
    have zE : Ext w (putCF w2 (H + 1) (H + 2) 0 0 none 0 0 10 0) := (putCF_ext HbE.out (show w.heap.size ≤ H + 1 by omega) (show w.heap.size ≤ H + 2 by omega) _ _ _ _ _ _ _)
    obtain ⟨Wz, hWz⟩ : ∃ Wz, putCF w2 (H + 1) (H + 2) 0 0 none 0 0 10 0 = Wz := ⟨_, rfl⟩
    rw [hWz] at zC zF zE
    unfold putCF at hWz
    have HWz := Lib.hid hWz; have HzE := Lib.hid zE
    have v0 := zC.x0; have v1 := zC.x1; have v2 := zC.x2; have v3 := zF.x0; have v4 := zF.x1
    have HAns := Lib.hid (show ∀ e : Ending, e = .returned (.tuple #[.agg #[.int .i64 0, .int .i64 0, .slice none 0 0], .agg #[.int .i64 10, .int .i64 0]]) → Ans w Wz e R from fun e he => by rw [HRz.out]; exact Ans.none he)
    clear zC zF zE hWz
    go_wp2_with fail
    rw [HWz.out]
    exact bodyPost_ret (v := .tuple #[.agg #[.int .i64 0, .int .i64 0, .slice none 0 0], .agg #[.int .i64 10, .int .i64 0]]) (by simp [results, Tryd.results12, go_sem, v0, v1, v2, v3, v4]) rfl ⟨HAns.out _ rfl, HzE.out⟩
  have p2 : decide (qb ≤ q) = false := df hq1
  have Hq := Lib.hid (show ¬ (q < 0 ∨ qb ≤ q) by omega)
  go_wp2_with fail
  refine (HKP.out W1 HbE.out).mono ?_
  rintro e w2 ⟨rfl, hx2⟩
  have hf2 := Hbf.out.ext hx2
  have p3 := hf2.x0; have p4 := hf2.x1; have p5 := hf2.f 0; have p6 := hf2.f 1
  have hOn := only2 w2 Fb (.int .i64 up) (.int .i64 vp)
  have nFH : H ≠ Fb := by have := Hlo.out; omega
  have Hbf2 := Lib.hid (hf2.put up vp); have HbC2 := Lib.hid ((HbC.out.ext hx2).kept hOn nFH); have HbR2 := Lib.hid ((HbR.out.ext hx2).kept hOn nF1.symm); have HbF2 := Lib.hid ((HbF.out.ext hx2).kept hOn nF2.symm); have HbE2 := Lib.hid (ext_only (HbE.out.trans hx2) hOn (by have := Hlo.out; omega))
  clear hx2 hf2 hOn HbC HbR HbF Hbf HbE d0 d1 l0 l1 l2 p1 p2 hq0 hq1
  go_upto_region 7 with fail
  generalize (w2.setCell ⟨Fb, 0, none⟩ (.int .i64 up)).setCell ⟨Fb, 1, none⟩ (.int .i64 vp) = W2 at *
  clear p3 p4 p5 p6
  have HbC := HbC2; have HbR := HbR2; have HbF := HbF2; have Hbf := Hbf2; have HbE := HbE2
  clear HbC2 HbR2 HbF2 Hbf2 HbE2
  have d0 := Hbf.out.x0; have d1 := Hbf.out.x1
  by_cases hup : up = 0
  rotate_left 1
  · have nu := nt hup; have nb := bf hup
    have HRz := Lib.hid (HR3.out Hu.out (by have := Hq.out; omega) hup)
    clear hup
    have r0 := HbR.out.x0; have r1 := HbR.out.x1; have r2 := HbR.out.x2; have g0 := HbR.out.f 0; have g1 := HbR.out.f 1; have g2 := HbR.out.f 2
    have f0 := HbF.out.x0; have f1 := HbF.out.x1; have k0 := HbF.out.f 0; have k1 := HbF.out.f 1
    have zC := (putCF_C HbR.out (show H + 1 ≠ H + 2 by omega) 0 0 none 0 0 up vp).drew
    have zF := (putCF_F HbF.out (show H + 1 ≠ H + 2 by omega) 0 0 none 0 0 up vp).drew
    have zE : Ext w (putCF W2 (H + 1) (H + 2) 0 0 none 0 0 up vp).drew := Below.drew (putCF_ext HbE.out (show w.heap.size ≤ H + 1 by omega) (show w.heap.size ≤ H + 2 by omega) _ _ _ _ _ _ _)
    obtain ⟨Wz, hWz⟩ : ∃ Wz, putCF W2 (H + 1) (H + 2) 0 0 none 0 0 up vp = Wz := ⟨_, rfl⟩
    rw [hWz] at zC zF zE
    unfold putCF at hWz
    have HWz := Lib.hid hWz; have HzE := Lib.hid zE
    have v0 := zC.x0; have v1 := zC.x1; have v2 := zC.x2; have v3 := zF.x0; have v4 := zF.x1
    have HAns := Lib.hid (show ∀ e : Ending, e = .returned (.tuple #[.agg #[.int .i64 0, .int .i64 0, .slice none 0 0], .agg #[.int .i64 up, .int .i64 vp]]) → Ans w Wz.drew e R from fun e he => by rw [HRz.out]; exact Ans.none he)
    clear zC zF zE hWz
    go_upto_region 8 with fail
    go_region
    go_wp2_with fail
    rw [HWz.out]
    exact bodyPost_ret (v := .tuple #[.agg #[.int .i64 0, .int .i64 0, .slice none 0 0], .agg #[.int .i64 up, .int .i64 vp]]) (by simp [results, Tryd.results12, go_sem, v0, v1, v2, v3, v4]) rfl ⟨HAns.out _ rfl, HzE.out⟩
  have nu2 := nf' hup
  have hvp := HzP.out hup
  have Hup := Lib.hid hup
  subst hvp
  subst hup
  obtain ⟨hn4, hfit⟩ := Hfit.out Hu.out
  have Hft := Lib.hid hfit
  have HR4' := Lib.hid (HR4.out Hu.out (by have := Hq.out; omega) Hup.out)
  have HR5' := Lib.hid (HR5.out Hu.out (by have := Hq.out; omega) Hup.out)
  clear hfit
  have l0 := HbC.out.x0; have l1 := HbC.out.x1; have l2 := HbC.out.x2
  have EO := ext_al W2 (.cells #[.int .i64 qb, .int .i64 bi, .slice none 0 0] 24)
  have bOc : CiB (W2.alloc (.cells #[.int .i64 qb, .int .i64 bi, .slice none 0 0] 24)) W2.heap.size qb bi none 0 0 := ⟨heap_alloc_new _ _⟩
  have z2 := (HbC.out.ext EO).x2
  have HC2 := Lib.hid (HbC.out.ext EO); have HR2' := Lib.hid (HbR.out.ext EO); have HF2 := Lib.hid (HbF.out.ext EO); have HE2 := Lib.hid (HbE.out.trans EO); have Hf2 := Lib.hid (Hbf.out.ext EO); have HO2 := Lib.hid bOc
  have Hgt := Lib.hid (show Fb < W2.heap.size from Hbf.out.lt)
  have Hsz2 := Lib.hid (show (W2.alloc (.cells #[.int .i64 qb, .int .i64 bi, .slice none 0 0] 24)).heap.size = W2.heap.size + 1 by simp)
  clear EO bOc HbC HbR HbF Hbf HbE
  go_wp2_with fail
  generalize W2.alloc (.cells #[.int .i64 qb, .int .i64 bi, .slice none 0 0] 24) = W3 at *
  obtain ⟨Ob, hOb⟩ : ∃ y, W2.heap.size = y := ⟨_, rfl⟩
  rw [hOb] at HO2 Hgt Hsz2 ⊢
  clear d0 d1 l0 l1 l2 z2 hOb nu nu2
  have nO1 : Ob ≠ H + 1 := by have := Hlo.out; have := Hgt.out; omega
  have nO2 : Ob ≠ H + 2 := by have := Hlo.out; have := Hgt.out; omega
  have nOF : Ob ≠ Fb := by have := Hgt.out; omega
  have nOH : Ob ≠ H := by have := Hlo.out; have := Hgt.out; omega
  have HwB := Lib.hid (show w.heap.size ≤ Ob by have := Hlo.out; have := Hgt.out; omega)
  go_loopg [8, 9] n (fun kk s8 s9 wx => ∃ (i : Nat) (av : Option Addr) (cv : Nat), s8 = .int .i64 (i : Int) ∧ i ≤ n ∧ n - i = kk ∧ CiB wx H qb bi ao n cp ∧ CiB wx (H + 1) 0 0 none 0 0 ∧ FtB wx (H + 2) 0 0 ∧ FtB wx Fb 0 0 ∧ CiB wx Ob qb bi av i cv ∧ OpsN wx (Ob + 1) (.slice av i cv) ((ops.map (ctrO q)).take i) ∧ clnF q 0 ops = clnF q i (ops.drop i) ∧ Ext w wx ∧ Ob + 1 ≤ wx.heap.size)
  case atStart => exact ⟨0, none, 0, rfl, by omega, by omega, HC2.out, HR2'.out, HF2.out, Hf2.out, HO2.out, OpsN.nil _ _, by rw [List.drop_zero], HE2.out, by have := Hsz2.out; omega⟩
  case round =>
    clear HC2 HR2' HF2 Hf2 HO2 HE2
    obtain ⟨i, av, cv, rfl, hin', hk, bC, bR, bF, bf, bO, hown, hcl, hX, hbs⟩ := hrel
    by_cases hin : i = n
    · have q1 : ¬ (i : Int) < (n : Int) := by omega
      have q1' : decide ((i : Int) < (n : Int)) = false := df q1
      subst hin
      rw [List.take_of_length_le (by rw [List.length_map, Hl.out]; omega)] at hown
      rw [clnF_end q ops i (by rw [Hl.out]; omega)] at hcl
      have HRz := Lib.hid (HR5'.out hcl)
      have w2 := bC.x2
      have y0 := bO.x0; have y1 := bO.x1; have y2 := bO.x2
      have r0 := bR.x0; have r1 := bR.x1; have r2 := bR.x2; have g0 := bR.f 0; have g1 := bR.f 1; have g2 := bR.f 2
      have f0 := bF.x0; have f1 := bF.x1; have k0 := bF.f 0; have k1 := bF.f 1
      have d0 := bf.x0; have d1 := bf.x1
      have zC := (putCF_C bR (show H + 1 ≠ H + 2 by omega) qb bi av i cv 0 0).drew
      have zF := (putCF_F bF (show H + 1 ≠ H + 2 by omega) qb bi av i cv 0 0).drew
      have zO : OpsN (putCF wr (H + 1) (H + 2) qb bi av i cv 0 0).drew (Ob + 1) (.slice av i cv) (ops.map (ctrO q)) := OpsN.ext (putCF_opsN hown bR bF (show H + 1 ≠ H + 2 by omega) qb bi av i cv 0 0) (cdrew (Ext.refl _))
      have zE : Ext w (putCF wr (H + 1) (H + 2) qb bi av i cv 0 0).drew := Below.drew (putCF_ext hX (show w.heap.size ≤ H + 1 by omega) (show w.heap.size ≤ H + 2 by omega) _ _ _ _ _ _ _)
      obtain ⟨Wz, hWz⟩ : ∃ Wz, putCF wr (H + 1) (H + 2) qb bi av i cv 0 0 = Wz := ⟨_, rfl⟩
      rw [hWz] at zC zF zO zE
      unfold putCF at hWz
      have HWz := Lib.hid hWz; have HzE := Lib.hid zE
      have HAns := Lib.hid (show ∀ e : Ending, e = .returned (.tuple #[.agg #[.int .i64 qb, .int .i64 bi, .slice av i cv], .agg #[.int .i64 0, .int .i64 0]]) → Ans w Wz.drew e R from fun e he => by rw [HRz.out]; exact ⟨av, i, cv, he, zO.down (by have := HwB.out; omega)⟩)
      have v0 := zC.x0; have v1 := zC.x1; have v2 := zC.x2; have v3 := zF.x0; have v4 := zF.x1
      clear zC zF zO zE hWz bC bR bF bf bO hX hin' hk hbs hown hcl
      go_upto_region 21 with fail
      go_region
      go_wp2_with fail
      rw [HWz.out]
      exact bodyPost_ret (v := .tuple #[.agg #[.int .i64 qb, .int .i64 bi, .slice av i cv], .agg #[.int .i64 0, .int .i64 0]]) (by simp [results, Tryd.results12, go_sem, v0, v1, v2, v3, v4]) rfl ⟨HAns.out _ rfl, HzE.out⟩
    · have q1 : (i : Int) < (n : Int) := by omega
      have q1' : decide ((i : Int) < (n : Int)) = true := dt q1
      have q0 : (0 : Int) ≤ (i : Int) := by omega
      obtain ⟨gg, hg⟩ : ∃ g, ops[i]? = some g := ⟨_, List.getElem?_eq_getElem (by rw [Hl.out]; omega)⟩
      have hst : (ops.map (ctrO q)).take (i + 1) = (ops.map (ctrO q)).take i ++ [ctrO q gg] := by rw [List.take_add_one, List.getElem?_map, hg]; rfl
      have Hli := Lib.hid (show ((ops.map (ctrO q)).take i).length = i by rw [List.length_take, List.length_map, Hl.out]; omega)
      rw [clnF_step q ops i gg hg] at hcl
      obtain ⟨bo, oo, rfl⟩ := (Hops.out.ext hX).some_of (by omega)
      obtain ⟨a1, m1, c1, a2, m2, c2, t0, t1, t2, t3, t4, t5, hLo⟩ := (Hops.out.ext hX).at i gg hg
      obtain ⟨hbl1, hbl2⟩ := Hft.out gg (List.mem_of_getElem? hg)
      obtain ⟨kd, kk', ctl, qq, bb, cnd⟩ := gg
      simp only at t0 t1 t3 t4 hbl1 hbl2 hcl
      have hn1' : m1 ≤ 1000 := by rw [← hLo.i1.1]; exact hbl1
      have hn2' : m2 ≤ 1000 := by rw [← hLo.i2.1]; exact hbl2
      have EU := ext_al wr (.cells #[.int .i64 kd, .int .i64 kk', .slice a1 m1 c1, .int .i64 qq, .int .i64 bb, .slice a2 m2 c2] 43)
      have bx := opbx_new wr kd kk' a1 m1 c1 qq bb a2 m2 c2
      have e0 := bx.x0; have e1 := bx.x1; have e2 := bx.x2; have e3 := bx.x3
      have HLo := Lib.hid (hLo.ext EU); have Hbx := Lib.hid bx
      obtain ⟨xs, hx0⟩ := hown
      have HxB := Lib.hid hx0.old; have HOwlt := Lib.hid (show ∀ g, (Value.slice av i cv).ownBlock = some g → g < wr.heap.size from fun g hg => (own_lt hx0.own g hg).2)
      have HcC := Lib.hid (bC.ext EU); have HcR := Lib.hid (bR.ext EU); have HcF := Lib.hid (bF.ext EU); have Hcf := Lib.hid (bf.ext EU); have HcO := Lib.hid (bO.ext EU); have HcE := Lib.hid (hX.trans EU); have Hxc := Lib.hid (hx0.ext EU)
      have Hbs := Lib.hid hbs; have HbsC := Lib.hid (Nat.le_trans hbs EU.size); have Hst := Lib.hid hst; have Hk := Lib.hid hk; have Hcl0 := Lib.hid hcl
      have HBx := Lib.hid (show Ob < wr.heap.size by omega)
      have v2 := bC.x2
      clear bC bR bF bf bO hX hbs hst hk hcl hx0 hLo EU bx hg hbl1 hbl2
      go_upto_region 14 with fail
      generalize wr.alloc (.cells #[.int .i64 kd, .int .i64 kk', .slice a1 m1 c1, .int .i64 qq, .int .i64 bb, .slice a2 m2 c2] 43) = U at *
      obtain ⟨Bx, hBxe⟩ : ∃ y, wr.heap.size = y := ⟨_, rfl⟩
      rw [hBxe] at Hbx HBx Hbs HxB HOwlt e0 e1 e2 e3 ⊢
      clear t0 t1 t2 t3 t4 t5 v2 hBxe
      have hBO := HBx.out
      have hFB : Fb < Bx := by have := Hgt.out; omega
      have hHB : H + 2 < Bx := by have := Hlo.out; have := Hgt.out; omega
      by_cases hk1 : kd = 1
      · have b1 : (kd == 1) = true := eq_t hk1
        have hcl := Hcl0.out
        rw [if_neg (by simp [hk1])] at hcl
        have Hcl := Lib.hid hcl
        have hst := Hst.out
        rw [ctrO_1 q hk1] at hst
        have Hst := Lib.hid hst
        have y2 := HcO.out.x2
        have HOw := Lib.hid (show ∀ o, (U.alloc o).ownsRow (Ob + 1) 43 6 (.slice av i cv) i xs from fun o => by have h := Hxc.out.own.alloc o; rw [Hli.out] at h; exact h)
        have Hnw := Lib.hid (show OpN U Bx ⟨4, kk', [], q, 0, []⟩ none 0 0 none 0 0 from ⟨io_nil _ _, io_nil _ _, fun k h => by simp [Value.ownBlock] at h⟩)
        clear hcl hst hk1
        go_wp2_with (at_builtin; refine wpList_append_own _ rfl _ _ 22 rfl (Ob + 1) 43 i0 (.agg #[.int .i64 0, .int .i64 0, .slice none 0 0, .int .i64 0, .int .i64 0, .slice none 0 0]) 6 80 Tryd.underlying22 hi hz0 hz1 hz2 rfl (by decide) _ i xs rfl (HOw.out _) ⟨U.heap.size, 0, none⟩ 1 1 [.int .i64 4, .int .i64 kk', .slice none 0 0, .int .i64 q, .int .i64 0, .slice none 0 0] rfl rfl (new_op U _ _ _ _ _ _ _ _ _ _ _) (one_op _ _ _ _ _ _ _ _ _ _) (by unfold maxLen; omega) (by omega) (Nat.le_trans HbsC.out (ext_al U _).size) ?_; intro v' w7 hown' hgrow' _; obtain ⟨g7, c7, rfl⟩ := slice_of_own hown' (by omega); have hkind := PtKind (HOw.out (.cells #[.int .i64 4, .int .i64 kk', .slice none 0 0, .int .i64 q, .int .i64 0, .slice none 0 0] 43)); have HO7 := Lib.hid (CiB_grownK hgrow' hkind (HcO.out.ext (ext_al U _))); have y7 := HO7.out.x2; have f7 := HO7.out.f 2)
        have Ea := ext_al U (.cells #[.int .i64 4, .int .i64 kk', .slice none 0 0, .int .i64 q, .int .i64 0, .slice none 0 0] 43)
        have hk7 := grown_ints hgrow' hkind
        have hxA := Hxc.out.ext Ea
        have own7 := OpsX.snoc (g := ⟨4, kk', [], q, 0, []⟩) hxA (by rw [Hli.out]; exact hown') hk7 HxB.out Hbs.out ((Hnw.out).ext Ea |>.keep hk7)
        have hOo := only1 w7 Ob 2 (.slice (some ⟨g7, 0, none⟩) (i + 1) c7)
        have Hown8 := Lib.hid (show OpsN _ (Ob + 1) _ _ from ⟨_, own7.far HO7.out.row (by decide) (by decide) hOo⟩)
        have HO8 := Lib.hid (HO7.out.set2 (some ⟨g7, 0, none⟩) (i + 1) c7)
        have HC8 := Lib.hid ((CiB_grownK hgrow' hkind (HcC.out.ext Ea)).kept hOo (by omega)); have HR8 := Lib.hid ((CiB_grownK hgrow' hkind (HcR.out.ext Ea)).kept hOo (by omega)); have HF8 := Lib.hid ((FtB_grownK hgrow' hkind (HcF.out.ext Ea)).kept hOo (by omega)); have Hf8 := Lib.hid ((FtB_grownK hgrow' hkind (Hcf.out.ext Ea)).kept hOo (by omega))
        have HE8 := Lib.hid (ext_only (grown_ext (HcE.out.trans Ea) hgrow' (fun k hk => by have h1 := (hkind k hk).1; have h2 := HwB.out; omega)) hOo (show w.heap.size ≤ Ob by have := HwB.out; omega))
        have Hs8 := Lib.hid (show Ob + 1 ≤ (w7.setCell ⟨Ob, 2, none⟩ (.slice (some ⟨g7, 0, none⟩) (i + 1) c7)).heap.size by rw [hOo.size]; exact Nat.le_trans (Nat.le_trans HbsC.out Ea.size) hgrow'.size)
        clear Ea hk7 own7 hOo hgrow' hown' hkind hxA
        go_roundg (n - (i + 1))
        case measure => have := Hk.out; omega
        case rel => exact ⟨i + 1, some ⟨g7, 0, none⟩, c7, by go_num, by omega, rfl, HC8.out, HR8.out, HF8.out, Hf8.out, HO8.out, by rw [Hst.out]; exact Hown8.out, Hcl.out, HE8.out, Hs8.out⟩
      have b1 : (kd == 1) = false := bf' hk1
      have HMe := Lib.hid (fun wx (hx : Ext U wx) => member_any a1 m1 c1 ctl q wx (HLo.out.i1.ext hx) HLo.out.h1 HLo.out.m1)
      by_cases huse : qq = q ∨ q ∈ ctl
      · have hcl := Hcl0.out
        rw [if_pos ⟨hk1, huse⟩] at hcl
        have HRz := Lib.hid (HR4'.out _ hcl)
        by_cases hqq : qq = q
        · have b2 : (qq == q) = true := eq_t hqq
          clear hcl hk1 huse
          clear hqq
          go_wp2_with fail
          refine (rfault_any 12 (i : Int) U).mono ?_
          rintro e w5 ⟨rfl, hx5⟩
          have HbR := Lib.hid (HcR.out.ext hx5); have HbF := Lib.hid (HcF.out.ext hx5); have HbE := Lib.hid (HcE.out.trans hx5)
          clear hx5 HcC HcR HcF Hcf HcO HcE Hxc e0 e1 e2 e3
          have r0 := HbR.out.x0; have r1 := HbR.out.x1; have r2 := HbR.out.x2; have g0 := HbR.out.f 0; have g1 := HbR.out.f 1; have g2 := HbR.out.f 2
          have f0 := HbF.out.x0; have f1 := HbF.out.x1; have k0 := HbF.out.f 0; have k1 := HbF.out.f 1
          have zC := (putCF_C HbR.out (show H + 1 ≠ H + 2 by omega) 0 0 none 0 0 12 (i : Int))
          have zF := (putCF_F HbF.out (show H + 1 ≠ H + 2 by omega) 0 0 none 0 0 12 (i : Int))
          have zE : Ext w (putCF w5 (H + 1) (H + 2) 0 0 none 0 0 12 (i : Int)) := (putCF_ext HbE.out (show w.heap.size ≤ H + 1 by omega) (show w.heap.size ≤ H + 2 by omega) _ _ _ _ _ _ _)
          obtain ⟨Wz, hWz⟩ : ∃ Wz, putCF w5 (H + 1) (H + 2) 0 0 none 0 0 12 (i : Int) = Wz := ⟨_, rfl⟩
          rw [hWz] at zC zF zE
          unfold putCF at hWz
          have HWz := Lib.hid hWz; have HzE := Lib.hid zE
          have v0 := zC.x0; have v1 := zC.x1; have v2 := zC.x2; have v3 := zF.x0; have v4 := zF.x1
          have HAns := Lib.hid (show ∀ e : Ending, e = .returned (.tuple #[.agg #[.int .i64 0, .int .i64 0, .slice none 0 0], .agg #[.int .i64 12, .int .i64 (i : Int)]]) → Ans w Wz e R from fun e he => by rw [HRz.out]; exact Ans.none he)
          clear zC zF zE hWz
          go_wp2_with fail
          rw [HWz.out]
          exact bodyPost_ret (v := .tuple #[.agg #[.int .i64 0, .int .i64 0, .slice none 0 0], .agg #[.int .i64 12, .int .i64 (i : Int)]]) (by simp [results, Tryd.results12, go_sem, v0, v1, v2, v3, v4]) rfl ⟨HAns.out _ rfl, HzE.out⟩
        · have b2 : (qq == q) = false := bf' hqq
          have hmem : q ∈ ctl := huse.elim (fun h => absurd h hqq) id
          have hdm : decide (q ∈ ctl) = true := dt hmem
          rw [hdm] at HMe
          clear hcl hk1 huse hqq hmem hdm
          go_wp2_with fail
          refine (HMe.out U (Ext.refl _)).mono ?_
          rintro e w4 ⟨rfl, hx4e⟩
          have hx4 : Ext U w4 := by rw [hx4e]; exact Ext.refl _
          clear hx4e
          have HcR4 := Lib.hid (HcR.out.ext hx4); have HcF4 := Lib.hid (HcF.out.ext hx4); have HcE4 := Lib.hid (HcE.out.trans hx4)
          clear hx4 HcC HcR HcF Hcf HcO HcE Hxc e0 e1 e2 e3 HMe
          go_wp2_with fail
          refine (rfault_any 12 (i : Int) w4).mono ?_
          rintro e w5 ⟨rfl, hx5⟩
          have HbR := Lib.hid (HcR4.out.ext hx5); have HbF := Lib.hid (HcF4.out.ext hx5); have HbE := Lib.hid (HcE4.out.trans hx5)
          clear hx5 HcR4 HcF4 HcE4
          have r0 := HbR.out.x0; have r1 := HbR.out.x1; have r2 := HbR.out.x2; have g0 := HbR.out.f 0; have g1 := HbR.out.f 1; have g2 := HbR.out.f 2
          have f0 := HbF.out.x0; have f1 := HbF.out.x1; have k0 := HbF.out.f 0; have k1 := HbF.out.f 1
          have zC := (putCF_C HbR.out (show H + 1 ≠ H + 2 by omega) 0 0 none 0 0 12 (i : Int))
          have zF := (putCF_F HbF.out (show H + 1 ≠ H + 2 by omega) 0 0 none 0 0 12 (i : Int))
          have zE : Ext w (putCF w5 (H + 1) (H + 2) 0 0 none 0 0 12 (i : Int)) := (putCF_ext HbE.out (show w.heap.size ≤ H + 1 by omega) (show w.heap.size ≤ H + 2 by omega) _ _ _ _ _ _ _)
          obtain ⟨Wz, hWz⟩ : ∃ Wz, putCF w5 (H + 1) (H + 2) 0 0 none 0 0 12 (i : Int) = Wz := ⟨_, rfl⟩
          rw [hWz] at zC zF zE
          unfold putCF at hWz
          have HWz := Lib.hid hWz; have HzE := Lib.hid zE
          have v0 := zC.x0; have v1 := zC.x1; have v2 := zC.x2; have v3 := zF.x0; have v4 := zF.x1
          have HAns := Lib.hid (show ∀ e : Ending, e = .returned (.tuple #[.agg #[.int .i64 0, .int .i64 0, .slice none 0 0], .agg #[.int .i64 12, .int .i64 (i : Int)]]) → Ans w Wz e R from fun e he => by rw [HRz.out]; exact Ans.none he)
          clear zC zF zE hWz
          go_wp2_with fail
          rw [HWz.out]
          exact bodyPost_ret (v := .tuple #[.agg #[.int .i64 0, .int .i64 0, .slice none 0 0], .agg #[.int .i64 12, .int .i64 (i : Int)]]) (by simp [results, Tryd.results12, go_sem, v0, v1, v2, v3, v4]) rfl ⟨HAns.out _ rfl, HzE.out⟩
      have hqq : qq ≠ q := fun e => huse (Or.inl e)
      have hnm : q ∉ ctl := fun e => huse (Or.inr e)
      have b2 : (qq == q) = false := bf' hqq
      have hdm : decide (q ∈ ctl) = false := df hnm
      rw [hdm] at HMe
      have hcl := Hcl0.out
      rw [if_neg (fun h => huse h.2)] at hcl
      have Hcl := Lib.hid hcl
      have hst := Hst.out
      rw [ctrO_2 q hk1] at hst
      have Hst := Lib.hid hst
      clear hcl hst hk1 huse hqq hnm hdm
      go_wp2_with fail
      refine (HMe.out U (Ext.refl _)).mono ?_
      rintro e w4 ⟨rfl, hx4e⟩
      have hx4 : Ext U w4 := by rw [hx4e]; exact Ext.refl _
      clear hx4e
      have hb4 := Hbx.out.ext hx4
      have f0 := hb4.x0; have f1 := hb4.x1; have f2 := hb4.x2; have f3 := hb4.x3; have f4 := hb4.x4; have f5 := hb4.x5
      have HCp := Lib.hid (copyOp_N ⟨kd, kk', ctl, qq, bb, cnd⟩ a1 m1 c1 a2 m2 c2 w4 (HLo.out.ext hx4) (by omega) (by omega))
      simp only at HCp
      have HX4 := Lib.hid hx4; have Hb4 := Lib.hid hb4
      clear e0 e1 e2 e3 hb4 hx4 HMe
      go_wp2_with fail
      refine HCp.out.mono ?_
      rintro e w5 ⟨⟨a3, c3, a5, c5, rfl, O5⟩, hx5⟩
      clear f0 f1 f2 f3 f4 f5
      have hb5 := Hb4.out.ext hx5
      have hE5 := HX4.out.trans hx5
      have e0 := hb5.x0; have e1 := hb5.x1; have e2 := hb5.x2; have e3 := hb5.x3; have e4 := hb5.x4; have e5 := hb5.x5
      have g0 := hb5.f 0; have g1 := hb5.f 1; have g2 := hb5.f 2; have g3 := hb5.f 3; have g4 := hb5.f 4; have g5 := hb5.f 5
      have hO6 := onl6 w5 Bx (.int .i64 kd) (.int .i64 kk') (.slice a3 m1 c3) (.int .i64 qq) (.int .i64 bb) (.slice a5 m2 c5)
      have hb6 := hb5.store kd kk' a3 m1 c3 qq bb a5 m2 c5
      have hki6 := only_ints hb5.row (by decide) hO6
      have hBl : Bx < w5.heap.size := hb5.lt
      have HO6 := Lib.hid (O5.keep hki6); have Hb6 := Lib.hid hb6
      have HcC6 := Lib.hid ((HcC.out.ext hE5).kept hO6 (by omega)); have HcR6 := Lib.hid ((HcR.out.ext hE5).kept hO6 (by omega)); have HcF6 := Lib.hid ((HcF.out.ext hE5).kept hO6 (by omega)); have Hcf6 := Lib.hid ((Hcf.out.ext hE5).kept hO6 (by omega)); have HcO6 := Lib.hid ((HcO.out.ext hE5).kept hO6 (by omega))
      have HcE6 := Lib.hid (ext_only (HcE.out.trans hE5) hO6 (by have := HwB.out; omega))
      have Hxc6 := Lib.hid ((Hxc.out.ext hE5).keep (fun g hg => hO6.block g (fun e => by have := HOwlt.out g hg; omega)) hki6)
      have Hsz6 := Lib.hid (show w4.heap.size ≤ ((((((w5.setCell ⟨Bx, 0, none⟩ (.int .i64 kd)).setCell ⟨Bx, 1, none⟩ (.int .i64 kk')).setCell ⟨Bx, 2, none⟩ (.slice a3 m1 c3)).setCell ⟨Bx, 3, none⟩ (.int .i64 qq)).setCell ⟨Bx, 4, none⟩ (.int .i64 bb)).setCell ⟨Bx, 5, none⟩ (.slice a5 m2 c5)).heap.size by rw [hO6.size]; exact hx5.size)
      have Hw4 := Lib.hid (show Bx ≤ w4.heap.size by have := Hb4.out.lt; omega)
      have hb6x := hb6.x2
      clear hb5 hb6 hE5 hx5 O5 hO6 hki6 HcC HcR HcF Hcf HcO HcE Hxc HCp HX4 Hb4 Hbx HLo
      go_upto_region 19 with fail
      generalize (((((w5.setCell ⟨Bx, 0, none⟩ (.int .i64 kd)).setCell ⟨Bx, 1, none⟩ (.int .i64 kk')).setCell ⟨Bx, 2, none⟩ (.slice a3 m1 c3)).setCell ⟨Bx, 3, none⟩ (.int .i64 qq)).setCell ⟨Bx, 4, none⟩ (.int .i64 bb)).setCell ⟨Bx, 5, none⟩ (.slice a5 m2 c5) = V at *
      clear e0 e1 e2 e3 e4 e5 g0 g1 g2 g3 g4 g5 hb6x
      obtain ⟨b1', c1', v1', v2'⟩ := HO6.out.i1.ints
      have Eq := ext_al V (.cells #[.int .i64 q] 3)
      have hb7 := Hb6.out.ext Eq
      have e2 := hb7.x2
      have Hown1 := Lib.hid (World.ownsRow_lit (base := V.heap.size) (e := 3) (size := 1) V #[.int .i64 q] 1 (Nat.le_refl _) (by unfold maxLen; omega) rfl)
      have Hi1 := Lib.hid (HO6.out.i1.ext Eq)
      have HbV := Lib.hid hb7
      have hVl : Bx < V.heap.size := Hb6.out.lt
      have HVl := Lib.hid hVl
      clear b1' c1' v1' v2' hb7 hVl
      have key : ∀ (v7 : Value) (w7 : World), w7.ownsRow V.heap.size 3 1 v7 (1 + m1) (iC (q :: ctl)) → (V.alloc (.cells #[.int .i64 q] 3)).grownBy w7 (some V.heap.size) → ∃ a7 c7, v7 = .slice a7 (1 + m1) c7 ∧ Iow w7 V.heap.size a7 (1 + m1) c7 (q :: ctl) ∧ Ext V w7 := fun v7 w7 h1 h2 => by
        obtain ⟨a7, c7, e, h3⟩ := io_of_own h1
        exact ⟨a7, c7, e, h3, grown_ext (ext_al V _) h2 (fun k hk => by cases hk; exact Nat.le_refl _)⟩
      have HKey := Lib.hid key
      clear key
      cases a3 with
      | none =>
        have hm0 : m1 = 0 ∧ c3 = 0 := by
          rcases Hi1.out.2 with ⟨e, h0⟩ | ⟨g, cap, cur, e, _⟩
          · injection e with _ _ e3; exact ⟨h0, e3⟩
          · injection e with e1; cases e1
        obtain ⟨rfl, rfl⟩ := hm0
        have hct : ctl = [] := List.length_eq_zero_iff.1 (by have := Hi1.out.1; simpa [iC] using this)
        subst hct
        obtain ⟨a7, c7, ha7, hI7, hE7⟩ := HKey.out (.slice (some ⟨V.heap.size, 0, none⟩) 1 1) (V.alloc (.cells #[.int .i64 q] 3)) Hown1.out ⟨rfl, rfl, rfl, Nat.le_refl _, fun _ _ _ => rfl⟩
        injection ha7 with ea en ec
        clear en
        subst ea; subst ec
        replace hI7 : Iow (V.alloc (.cells #[.int .i64 q] 3)) V.heap.size (some ⟨V.heap.size, 0, none⟩) 1 1 [q] := hI7
        have HI7 := Lib.hid hI7; have HE7 := Lib.hid hE7; have Hb7 := Lib.hid (Hb6.out.ext hE7)
        clear hI7 hE7
        have g2 := Hb7.out.f 2
        go_upto_region 20 with (at_builtin; refine wpList_append_own_none rfl _ _ 25 rfl V.heap.size 3 j0 1 Tryd.underlying25 hj _ _ _ rfl Hown1.out rfl ?_)
        obtain ⟨w7, hw7⟩ : ∃ w7, (V.alloc (.cells #[.int .i64 q] 3)) = w7 := ⟨_, rfl⟩
        have hI7 := HI7.out; have hE7 := HE7.out; have hb7 := Hb7.out
        rw [hw7] at hI7 hE7 hb7 g2 e2 ⊢
        clear hw7 Hown1 Hi1 HbV HKey
        have hO8 := only1 w7 Bx 2 (.slice (some ⟨V.heap.size, 0, none⟩) 1 1)
        have hki8 := only_ints hb7.row (by decide) hO8
        have hb8 := hb7.set2 (some ⟨V.heap.size, 0, none⟩) 1 1
        have i1 := hI7.keep hki8; have i2 := ((HO6.out.i2.ext hE7).keep hki8)
        have Hnw := Lib.hid (show OpN (w7.setCell ⟨Bx, 2, none⟩ (.slice (some ⟨V.heap.size, 0, none⟩) 1 1)) Bx ⟨kd, kk', [q], qq, bb, cnd⟩ (some ⟨V.heap.size, 0, none⟩) 1 1 a5 m2 c5 from ⟨i1.down (by have := HVl.out; omega), i2.down Hw4.out, fun k h1 h2 => by
          have h3 := (hI7.lt k h1).1
          have h4 := (HO6.out.i2.lt k h2).2
          omega⟩)
        have HcC := Lib.hid ((HcC6.out.ext hE7).kept hO8 (by omega)); have HcR := Lib.hid ((HcR6.out.ext hE7).kept hO8 (by omega)); have HcF := Lib.hid ((HcF6.out.ext hE7).kept hO8 (by omega)); have Hcf := Lib.hid ((Hcf6.out.ext hE7).kept hO8 (by omega)); have HcO := Lib.hid ((HcO6.out.ext hE7).kept hO8 (by omega))
        have HcE := Lib.hid (ext_only (HcE6.out.trans hE7) hO8 (by have := HwB.out; omega))
        have Hxc := Lib.hid ((Hxc6.out.ext hE7).keep (fun g hg => hO8.block g (fun e => by have := HOwlt.out g hg; omega)) hki8)
        have HbsC8 := Lib.hid (show Ob + 1 ≤ (w7.setCell ⟨Bx, 2, none⟩ (.slice (some ⟨V.heap.size, 0, none⟩) 1 1)).heap.size by rw [hO8.size]; have := hE7.size; have := HVl.out; omega)
        have p0 := hb8.x0; have p1 := hb8.x1; have p2 := hb8.x2; have p3 := hb8.x3; have p4 := hb8.x4; have p5 := hb8.x5
        have y2 := HcO.out.x2
        have HOw := Lib.hid (show ∀ o, ((w7.setCell ⟨Bx, 2, none⟩ (.slice (some ⟨V.heap.size, 0, none⟩) 1 1)).alloc o).ownsRow (Ob + 1) 43 6 (.slice av i cv) i xs from fun o => by have h := Hxc.out.own.alloc o; rw [Hli.out] at h; exact h)
        clear hI7 hE7 hb7 hO8 hki8 hb8 i1 i2 HcC6 HcR6 HcF6 Hcf6 HcO6 HcE6 Hxc6 HO6 Hb6 HbsC
        have HbsC := HbsC8
        generalize w7.setCell ⟨Bx, 2, none⟩ (.slice (some ⟨V.heap.size, 0, none⟩) 1 1) = V8 at *
        clear g2
        go_wp2_with (at_builtin; refine wpList_append_own _ rfl _ _ 22 rfl (Ob + 1) 43 i0 (.agg #[.int .i64 0, .int .i64 0, .slice none 0 0, .int .i64 0, .int .i64 0, .slice none 0 0]) 6 80 Tryd.underlying22 hi hz0 hz1 hz2 rfl (by decide) _ i xs rfl (HOw.out _) ⟨V8.heap.size, 0, none⟩ 1 1 [.int .i64 kd, .int .i64 kk', .slice (some ⟨V.heap.size, 0, none⟩) 1 1, .int .i64 qq, .int .i64 bb, .slice a5 m2 c5] rfl rfl (new_op V8 _ _ _ _ _ _ _ _ _ _ _) (one_op _ _ _ _ _ _ _ _ _ _) (by unfold maxLen; omega) (by omega) (Nat.le_trans HbsC.out (ext_al V8 _).size) ?_; intro v' w9 hown' hgrow' _; obtain ⟨g7, c9, rfl⟩ := slice_of_own hown' (by omega); have hkind := PtKind (HOw.out (.cells #[.int .i64 kd, .int .i64 kk', .slice (some ⟨V.heap.size, 0, none⟩) 1 1, .int .i64 qq, .int .i64 bb, .slice a5 m2 c5] 43)); have HO7 := Lib.hid (CiB_grownK hgrow' hkind (HcO.out.ext (ext_al V8 _))); have y7 := HO7.out.x2; have f7 := HO7.out.f 2)
        have Ea := ext_al V8 (.cells #[.int .i64 kd, .int .i64 kk', .slice (some ⟨V.heap.size, 0, none⟩) 1 1, .int .i64 qq, .int .i64 bb, .slice a5 m2 c5] 43)
        have hk7 := grown_ints hgrow' hkind
        have hxA := Hxc.out.ext Ea
        have own7 := OpsX.snoc (g := ⟨kd, kk', [q], qq, bb, cnd⟩) hxA (by rw [Hli.out]; exact hown') hk7 HxB.out Hbs.out ((Hnw.out).ext Ea |>.keep hk7)
        have hOo := only1 w9 Ob 2 (.slice (some ⟨g7, 0, none⟩) (i + 1) c9)
        have Hown8 := Lib.hid (show OpsN _ (Ob + 1) _ _ from ⟨_, own7.far HO7.out.row (by decide) (by decide) hOo⟩)
        have HO8 := Lib.hid (HO7.out.set2 (some ⟨g7, 0, none⟩) (i + 1) c9)
        have HC8 := Lib.hid ((CiB_grownK hgrow' hkind (HcC.out.ext Ea)).kept hOo (by omega)); have HR8 := Lib.hid ((CiB_grownK hgrow' hkind (HcR.out.ext Ea)).kept hOo (by omega)); have HF8 := Lib.hid ((FtB_grownK hgrow' hkind (HcF.out.ext Ea)).kept hOo (by omega)); have Hf8 := Lib.hid ((FtB_grownK hgrow' hkind (Hcf.out.ext Ea)).kept hOo (by omega))
        have HE8 := Lib.hid (ext_only (grown_ext (HcE.out.trans Ea) hgrow' (fun k hk => by have h1 := (hkind k hk).1; have h2 := HwB.out; omega)) hOo (show w.heap.size ≤ Ob by have := HwB.out; omega))
        have Hs8 := Lib.hid (show Ob + 1 ≤ (w9.setCell ⟨Ob, 2, none⟩ (.slice (some ⟨g7, 0, none⟩) (i + 1) c9)).heap.size by rw [hOo.size]; exact Nat.le_trans (Nat.le_trans HbsC.out Ea.size) hgrow'.size)
        clear Ea hk7 own7 hOo hgrow' hown' hkind hxA
        go_roundg (n - (i + 1))
        case measure => have := Hk.out; omega
        case rel => exact ⟨i + 1, some ⟨g7, 0, none⟩, c9, by go_num, by omega, rfl, HC8.out, HR8.out, HF8.out, Hf8.out, HO8.out, by rw [Hst.out]; exact Hown8.out, Hcl.out, HE8.out, Hs8.out⟩
      | some ad =>
        obtain ⟨g1, rfl⟩ : ∃ g1, ad = ⟨g1, 0, none⟩ := by
          rcases Hi1.out.2 with ⟨e, h0⟩ | ⟨g, cap, cur, e, _⟩
          · injection e with e1; cases e1
          · injection e with e1; cases e1; exact ⟨g, rfl⟩
        have Hlen := Lib.hid (show (iC ctl).length = m1 * 1 from Hi1.out.1); have Hcls := Lib.hid (World.ownsRow.cells Hi1.out (g := g1) rfl); have Hio := Lib.hid (iC_one ctl)
        go_upto_region 20 with (at_builtin; refine wpList_append_own _ rfl _ _ 25 rfl V.heap.size 3 j0 (.int .i64 0) 1 8 Tryd.underlying25 hj hy0 hy1 hy2 rfl (by decide) _ _ _ rfl Hown1.out ⟨g1, 0, none⟩ m1 c3 (iC ctl) rfl Hlen.out Hcls.out Hio.out (by unfold maxLen; omega) (by omega) (ext_al V _).size ?_; intro v7 w7 hown7 hgr7 _; obtain ⟨a7, c7, rfl, hI7, hE7⟩ := HKey.out _ _ hown7 hgr7; have hb7 := Hb6.out.ext hE7; have e2' := hb7.x2; have g2 := hb7.f 2)
        clear hown7 hgr7 Hown1 Hi1 HbV HKey Hlen Hcls Hio e2
        have hO8 := only1 w7 Bx 2 (.slice a7 (1 + m1) c7)
        have hki8 := only_ints hb7.row (by decide) hO8
        have hb8 := hb7.set2 a7 (1 + m1) c7
        have i1 := hI7.keep hki8; have i2 := ((HO6.out.i2.ext hE7).keep hki8)
        have Hnw := Lib.hid (show OpN (w7.setCell ⟨Bx, 2, none⟩ (.slice a7 (1 + m1) c7)) Bx ⟨kd, kk', q :: ctl, qq, bb, cnd⟩ a7 (1 + m1) c7 a5 m2 c5 from ⟨i1.down (by have := HVl.out; omega), i2.down Hw4.out, fun k h1 h2 => by
          have h3 := (hI7.lt k h1).1
          have h4 := (HO6.out.i2.lt k h2).2
          omega⟩)
        have HcC := Lib.hid ((HcC6.out.ext hE7).kept hO8 (by omega)); have HcR := Lib.hid ((HcR6.out.ext hE7).kept hO8 (by omega)); have HcF := Lib.hid ((HcF6.out.ext hE7).kept hO8 (by omega)); have Hcf := Lib.hid ((Hcf6.out.ext hE7).kept hO8 (by omega)); have HcO := Lib.hid ((HcO6.out.ext hE7).kept hO8 (by omega))
        have HcE := Lib.hid (ext_only (HcE6.out.trans hE7) hO8 (by have := HwB.out; omega))
        have Hxc := Lib.hid ((Hxc6.out.ext hE7).keep (fun g hg => hO8.block g (fun e => by have := HOwlt.out g hg; omega)) hki8)
        have HbsC8 := Lib.hid (show Ob + 1 ≤ (w7.setCell ⟨Bx, 2, none⟩ (.slice a7 (1 + m1) c7)).heap.size by rw [hO8.size]; have := hE7.size; have := HVl.out; omega)
        have p0 := hb8.x0; have p1 := hb8.x1; have p2 := hb8.x2; have p3 := hb8.x3; have p4 := hb8.x4; have p5 := hb8.x5
        have y2 := HcO.out.x2
        have HOw := Lib.hid (show ∀ o, ((w7.setCell ⟨Bx, 2, none⟩ (.slice a7 (1 + m1) c7)).alloc o).ownsRow (Ob + 1) 43 6 (.slice av i cv) i xs from fun o => by have h := Hxc.out.own.alloc o; rw [Hli.out] at h; exact h)
        clear hI7 hE7 hb7 hO8 hki8 hb8 i1 i2 HcC6 HcR6 HcF6 Hcf6 HcO6 HcE6 Hxc6 HO6 Hb6 HbsC
        have HbsC := HbsC8
        generalize w7.setCell ⟨Bx, 2, none⟩ (.slice a7 (1 + m1) c7) = V8 at *
        clear g2
        go_wp2_with (at_builtin; refine wpList_append_own _ rfl _ _ 22 rfl (Ob + 1) 43 i0 (.agg #[.int .i64 0, .int .i64 0, .slice none 0 0, .int .i64 0, .int .i64 0, .slice none 0 0]) 6 80 Tryd.underlying22 hi hz0 hz1 hz2 rfl (by decide) _ i xs rfl (HOw.out _) ⟨V8.heap.size, 0, none⟩ 1 1 [.int .i64 kd, .int .i64 kk', .slice a7 (1 + m1) c7, .int .i64 qq, .int .i64 bb, .slice a5 m2 c5] rfl rfl (new_op V8 _ _ _ _ _ _ _ _ _ _ _) (one_op _ _ _ _ _ _ _ _ _ _) (by unfold maxLen; omega) (by omega) (Nat.le_trans HbsC.out (ext_al V8 _).size) ?_; intro v' w9 hown' hgrow' _; obtain ⟨g7, c9, rfl⟩ := slice_of_own hown' (by omega); have hkind := PtKind (HOw.out (.cells #[.int .i64 kd, .int .i64 kk', .slice a7 (1 + m1) c7, .int .i64 qq, .int .i64 bb, .slice a5 m2 c5] 43)); have HO7 := Lib.hid (CiB_grownK hgrow' hkind (HcO.out.ext (ext_al V8 _))); have y7 := HO7.out.x2; have f7 := HO7.out.f 2)
        have Ea := ext_al V8 (.cells #[.int .i64 kd, .int .i64 kk', .slice a7 (1 + m1) c7, .int .i64 qq, .int .i64 bb, .slice a5 m2 c5] 43)
        have hk7 := grown_ints hgrow' hkind
        have hxA := Hxc.out.ext Ea
        have own7 := OpsX.snoc (g := ⟨kd, kk', q :: ctl, qq, bb, cnd⟩) hxA (by rw [Hli.out]; exact hown') hk7 HxB.out Hbs.out ((Hnw.out).ext Ea |>.keep hk7)
        have hOo := only1 w9 Ob 2 (.slice (some ⟨g7, 0, none⟩) (i + 1) c9)
        have Hown8 := Lib.hid (show OpsN _ (Ob + 1) _ _ from ⟨_, own7.far HO7.out.row (by decide) (by decide) hOo⟩)
        have HO8 := Lib.hid (HO7.out.set2 (some ⟨g7, 0, none⟩) (i + 1) c9)
        have HC8 := Lib.hid ((CiB_grownK hgrow' hkind (HcC.out.ext Ea)).kept hOo (by omega)); have HR8 := Lib.hid ((CiB_grownK hgrow' hkind (HcR.out.ext Ea)).kept hOo (by omega)); have HF8 := Lib.hid ((FtB_grownK hgrow' hkind (HcF.out.ext Ea)).kept hOo (by omega)); have Hf8 := Lib.hid ((FtB_grownK hgrow' hkind (Hcf.out.ext Ea)).kept hOo (by omega))
        have HE8 := Lib.hid (ext_only (grown_ext (HcE.out.trans Ea) hgrow' (fun k hk => by have h1 := (hkind k hk).1; have h2 := HwB.out; omega)) hOo (show w.heap.size ≤ Ob by have := HwB.out; omega))
        have Hs8 := Lib.hid (show Ob + 1 ≤ (w9.setCell ⟨Ob, 2, none⟩ (.slice (some ⟨g7, 0, none⟩) (i + 1) c9)).heap.size by rw [hOo.size]; exact Nat.le_trans (Nat.le_trans HbsC.out Ea.size) hgrow'.size)
        clear Ea hk7 own7 hOo hgrow' hown' hkind hxA
        go_roundg (n - (i + 1))
        case measure => have := Hk.out; omega
        case rel => exact ⟨i + 1, some ⟨g7, 0, none⟩, c9, by go_num, by omega, rfl, HC8.out, HR8.out, HF8.out, Hf8.out, HO8.out, by rw [Hst.out]; exact Hown8.out, Hcl.out, HE8.out, Hs8.out⟩


end Go.Proofs.YtapolidgocfbjaaDoor
namespace Go.Proofs.YtapolidgocfbjaaDoor
open Go.RowKit

theorem Iow.keep1 {w w' : World} {base : Nat} {a : Option Addr} {n c : Nat} {l : List Int} (h : Iow w base a n c l) (hk : ∀ k, (Value.slice a n c).ownBlock = some k → w'.heap[k]? = w.heap[k]?) : Iow w' base a n c l := own_keep3 h hk
/-- The first i of them are turned by f. -/
def mapF (f : Gop → Gop) (ops : List Gop) (i : Nat) : List Gop := (ops.take i).map f ++ ops.drop i
theorem mapF_len (f : Gop → Gop) (ops : List Gop) (i : Nat) : (mapF f ops i).length = ops.length := by
  unfold mapF
  simp only [List.length_append, List.length_map, List.length_take, List.length_drop]
  omega
theorem mapF_get {f : Gop → Gop} {ops : List Gop} {i t : Nat} (ht : t < ops.length) : (mapF f ops i)[t]? = if t < i then ops[t]?.map f else ops[t]? := by
  unfold mapF
  by_cases h : t < i
  · rw [if_pos h, List.getElem?_append_left (by rw [List.length_map, List.length_take]; omega), List.getElem?_map, List.getElem?_take, if_pos h]
  · rw [if_neg h, List.getElem?_append_right (by rw [List.length_map, List.length_take]; omega), List.length_map, List.length_take, List.getElem?_drop]
    congr 1; omega
theorem mapF_zero (f : Gop → Gop) (ops : List Gop) : mapF f ops 0 = ops := by simp [mapF]
theorem mapF_all {f : Gop → Gop} {ops : List Gop} {i : Nat} (h : ops.length ≤ i) : mapF f ops i = ops.map f := by
  unfold mapF
  rw [List.take_of_length_le h, List.drop_eq_nil_of_le h, List.append_nil]
/-- An operation of a row is written over. -/
theorem rowF_set {w w' : World} {base : Nat} {f : Gop → Gop} {cs : Array Value} {ops : List Gop} {n i : Nat} {g g' : Gop} {b1 : Option Addr} {m1 d1 : Nat} {b2 : Option Addr} {m2 d2 : Nat} (hl : ops.length = n) (hi : i < n) (hsz : n * 6 ≤ cs.size) (h : RowF w base (fun p => cs[p]?) (mapF f ops i)) (hg : ops[i]? = some g) (hg' : f g = g')
    (hk : ∀ t x a1 n1 c1 a2 n2 c2, t ≠ i → t < n → cs[t * 6 + 2]? = some (.slice a1 n1 c1) → cs[t * 6 + 5]? = some (.slice a2 n2 c2) → OpN w base x a1 n1 c1 a2 n2 c2 → OpN w' base x a1 n1 c1 a2 n2 c2) (hn : OpN w' base g' b1 m1 d1 b2 m2 d2) :
    RowF w' base (fun p => (set6 cs (i * 6) (opF g' b1 m1 d1 b2 m2 d2))[p]?) (mapF f ops (i + 1)) := by
  intro t x hx
  have ht : t < n := by have := (List.getElem?_eq_some_iff.1 hx).1; rw [mapF_len, hl] at this; exact this
  rw [mapF_get (by omega)] at hx
  by_cases e : t = i
  · subst e
    rw [if_pos (by omega), hg] at hx
    simp only [Option.map_some, Option.some.injEq] at hx
    rw [hg'] at hx
    subst hx
    have hin := fun k hk => set6_in cs (t * 6) (opF g' b1 m1 d1 b2 m2 d2) k hk (by omega)
    exact ⟨b1, m1, d1, b2, m2, d2, hin 0 (by omega), hin 1 (by omega), hin 2 (by omega), hin 3 (by omega), hin 4 (by omega), hin 5 (by omega), hn⟩
  · have hx' : (mapF f ops i)[t]? = some x := by
      rw [mapF_get (by omega)]
      by_cases e3 : t < i
      · rw [if_pos e3]; rw [if_pos (by omega)] at hx; exact hx
      · rw [if_neg e3]; rw [if_neg (by omega)] at hx; exact hx
    obtain ⟨x1, x2, x3, x4, x5, x6, y0, y1, y2, y3, y4, y5, y6⟩ := h t x hx'
    have hout : ∀ k, k < 6 → (set6 cs (i * 6) (opF g' b1 m1 d1 b2 m2 d2))[t * 6 + k]? = cs[t * 6 + k]? := fun k hk => set6_out _ _ _ _ (by omega)
    exact ⟨x1, x2, x3, x4, x5, x6, (hout 0 (by omega)).trans y0, (hout 1 (by omega)).trans y1, (hout 2 (by omega)).trans y2, (hout 3 (by omega)).trans y3, (hout 4 (by omega)).trans y4, (hout 5 (by omega)).trans y5, hk t x _ _ _ _ _ _ e ht y2 y5 y6⟩
theorem sepF_set {cs : Array Value} {n i : Nat} {g' : Gop} {b1 : Option Addr} {m1 d1 : Nat} {b2 : Option Addr} {m2 d2 : Nat} (hi : i < n) (hsz : n * 6 ≤ cs.size) (h : SepF (n * 6) (fun p => cs[p]?))
    (h2 : ∀ k p u, (Value.slice b1 m1 d1).ownBlock = some k → p < n * 6 → p / 6 ≠ i → cs[p]? = some u → u.ownBlock ≠ some k)
    (h5 : ∀ k p u, (Value.slice b2 m2 d2).ownBlock = some k → p < n * 6 → p / 6 ≠ i → cs[p]? = some u → u.ownBlock ≠ some k)
    (h25 : ∀ k, (Value.slice b1 m1 d1).ownBlock = some k → (Value.slice b2 m2 d2).ownBlock ≠ some k) :
    SepF (n * 6) (fun p => (set6 cs (i * 6) (opF g' b1 m1 d1 b2 m2 d2))[p]?) := by
  have key : ∀ (p : Nat) (u : Value) (k : Nat), p < n * 6 → (set6 cs (i * 6) (opF g' b1 m1 d1 b2 m2 d2))[p]? = some u → u.ownBlock = some k → (p / 6 ≠ i ∧ cs[p]? = some u) ∨ (p = i * 6 + 2 ∧ (Value.slice b1 m1 d1).ownBlock = some k) ∨ (p = i * 6 + 5 ∧ (Value.slice b2 m2 d2).ownBlock = some k) := by
    intro p u k hp hu hk
    by_cases e : p / 6 = i
    · right
      obtain ⟨r, hr, rfl⟩ : ∃ r, r < 6 ∧ p = i * 6 + r := ⟨p % 6, by omega, by omega⟩
      rw [set6_in cs (i * 6) _ r hr (by omega)] at hu
      injection hu with hu
      subst hu
      rcases (show r = 0 ∨ r = 1 ∨ r = 2 ∨ r = 3 ∨ r = 4 ∨ r = 5 by omega) with rfl | rfl | rfl | rfl | rfl | rfl
      · simp [opF, Value.ownBlock] at hk
      · simp [opF, Value.ownBlock] at hk
      · exact Or.inl ⟨rfl, hk⟩
      · simp [opF, Value.ownBlock] at hk
      · simp [opF, Value.ownBlock] at hk
      · exact Or.inr ⟨rfl, hk⟩
    · left
      rw [set6_out _ _ _ _ (by omega)] at hu
      exact ⟨e, hu⟩
  intro p q k u v hp hq eu ev ku kv
  rcases key p u k hp eu ku with ⟨a1, a2⟩ | ⟨a1, a2⟩ | ⟨a1, a2⟩ <;> rcases key q v k hq ev kv with ⟨c1, c2⟩ | ⟨c1, c2⟩ | ⟨c1, c2⟩
  · exact h p q k u v hp hq a2 c2 ku kv
  · exact absurd ku (h2 k p u c2 hp a1 a2)
  · exact absurd ku (h5 k p u c2 hp a1 a2)
  · exact absurd kv (h2 k q v a2 hq c1 c2)
  · omega
  · exact absurd c2 (h25 k a2)
  · exact absurd kv (h5 k q v a2 hq c1 c2)
  · exact absurd a2 (h25 k c2)
  · omega

/-- Does an operation use qubit q already? -/
def uses (o : Gop) (q : Int) : Prop := ¬ o.kind = 1 ∧ (o.q = q ∨ q ∈ o.ctl)
instance (o : Gop) (q : Int) : Decidable (uses o q) := by unfold uses; exact inferInstance

set_option maxHeartbeats 4000000 in
set_option maxRecDepth 100000 in
theorem usesQubit_any (o : Gop) (a1 : Option Addr) (n1 c1 : Nat) (a2 : Option Addr) (n2 c2 : Nat) (q : Int) (w : World) (h : IntsAt w a1 n1 o.ctl) (hnc : n1 ≤ c1) (hc : c1 ≤ 9223372036854775807) (h1 : 1 ≤ o.kind) (h6 : o.kind ≤ 6) (hph : o.kind = 1 → o.ctl = []) (hS : Shp w) :
    Calls Tryd.prog 32 #[.agg #[.int .i64 o.kind, .int .i64 o.k, .slice a1 n1 c1, .int .i64 o.q, .int .i64 o.bit, .slice a2 n2 c2], .int .i64 q] w fun e w' => e = .returned (.bool (decide (uses o q))) ∧ Ext w w' := by
  obtain ⟨kd, k, ctl, qq, bb, cnd⟩ := o
  simp only at h h1 h6 hph ⊢
  obtain ⟨kn, rfl⟩ : ∃ m : Nat, kd = (m : Int) := ⟨kd.toNat, by omega⟩
  have E0 := ext_al w (.cells #[.int .i64 (kn : Int), .int .i64 k, .slice a1 n1 c1, .int .i64 qq, .int .i64 bb, .slice a2 n2 c2] 43)
  have bx := opbx_new w (kn : Int) k a1 n1 c1 qq bb a2 n2 c2
  have e0 := bx.x0; have e2 := bx.x2; have e3 := bx.x3
  have s2 := cell_ext (hS kn (by omega) (by omega)).2.2.1 E0
  have HC := Lib.hid (Contains_any a1 n1 c1 ctl q _ (h.ext E0) hnc hc)
  have HE := Lib.hid E0
  have i0 : (0 : Int) ≤ (kn : Int) := by omega
  have i1 : (kn : Int) < 7 := by omega
  have huq : usesQ (kn : Int) = !((kn : Int) == 1) := rfl
  obtain ⟨r, hr⟩ : ∃ r, decide (uses ⟨(kn : Int), k, ctl, qq, bb, cnd⟩ q) = r := ⟨_, rfl⟩
  rw [hr]
  unfold uses at hr
  simp only at hr
  clear h hS bx E0 h1 h6
  by_cases hk : (kn : Int) = 1
  · have hct := hph hk
    have hr0 : r = false := by rw [← hr]; exact df (fun hh => hh.1 hk)
    have hm : decide (q ∈ ctl) = false := by rw [hct]; rfl
    rw [huq, eq_t hk] at s2
    simp only [Bool.not_true] at s2
    rw [hm] at HC
    have Hr := Lib.hid hr0
    clear hr hr0 hm hct hph huq hk
    go_enter Tryd.func32, Tryd.ntmps32
    go_wp2_with fail
    refine HC.out.mono ?_
    rintro e w1 ⟨rfl, he1⟩
    have HE1 := Lib.hid (show Ext w w1 by rw [he1]; exact HE.out)
    clear he1
    go_wp2_with fail
    go_ret
    exact ⟨congrArg (fun b => Ending.returned (Value.bool b)) Hr.out.symm, HE1.out⟩
  · rw [huq, bf' hk] at s2
    simp only [Bool.not_false] at s2
    by_cases hq : qq = q
    · have hr0 : r = true := by rw [← hr]; exact dt ⟨hk, Or.inl hq⟩
      have b2 : (qq == q) = true := eq_t hq
      have Hr := Lib.hid hr0
      clear hr hr0 hph huq hk hq
      go_enter Tryd.func32, Tryd.ntmps32
      go_wp2_with fail
      go_ret
      exact ⟨congrArg (fun b => Ending.returned (Value.bool b)) Hr.out.symm, HE.out⟩
    · have b2 : (qq == q) = false := bf' hq
      have hr0 : r = decide (q ∈ ctl) := by rw [← hr]; exact decide_eq_decide.2 ⟨fun hh => hh.2.elim (fun e => absurd e hq) id, fun hh => ⟨hk, Or.inr hh⟩⟩
      have Hr := Lib.hid hr0
      clear hr hr0 hph huq hk hq
      go_enter Tryd.func32, Tryd.ntmps32
      go_wp2_with fail
      refine HC.out.mono ?_
      rintro e w1 ⟨rfl, he1⟩
      have HE1 := Lib.hid (show Ext w w1 by rw [he1]; exact HE.out)
      clear he1
      go_wp2_with fail
      go_ret
      exact ⟨congrArg (fun b => Ending.returned (Value.bool b)) Hr.out.symm, HE1.out⟩

set_option maxHeartbeats 4000000 in
set_option maxRecDepth 100000 in
theorem control_any (o : Gop) (a1 : Option Addr) (n1 c1 : Nat) (a2 : Option Addr) (n2 c2 base : Nat) (q : Int) (w : World) (h : Iow w base a1 n1 c1 o.ctl) (hn : n1 ≤ 1000) :
    Calls Tryd.prog 33 #[.agg #[.int .i64 o.kind, .int .i64 o.k, .slice a1 n1 c1, .int .i64 o.q, .int .i64 o.bit, .slice a2 n2 c2], .int .i64 q] w fun e w' =>
      ((o.kind = 1 ∧ e = .returned (.agg #[.int .i64 4, .int .i64 o.k, .slice none 0 0, .int .i64 q, .int .i64 0, .slice none 0 0])) ∨ (¬ o.kind = 1 ∧ ∃ (a7 : Option Addr) (m7 c7 : Nat), e = .returned (.agg #[.int .i64 o.kind, .int .i64 o.k, .slice a7 m7 c7, .int .i64 o.q, .int .i64 o.bit, .slice a2 n2 c2]) ∧ Iow w' w.heap.size a7 m7 c7 (q :: o.ctl))) ∧ Ext w w' := by
  obtain ⟨j0, hj, hy0, hy1, hy2⟩ := info_parts i_info
  obtain ⟨kd, k, ctl, qq, bb, cnd⟩ := o
  simp only at h ⊢
  obtain ⟨H, hH⟩ : ∃ H, w.heap.size = H := ⟨_, rfl⟩
  obtain ⟨A1, hA1⟩ : ∃ A1, w.alloc (.cells #[.int .i64 kd, .int .i64 k, .slice a1 n1 c1, .int .i64 qq, .int .i64 bb, .slice a2 n2 c2] 43) = A1 := ⟨_, rfl⟩
  obtain ⟨A2, hA2⟩ : ∃ A2, A1.alloc (.cells #[.int .i64 0, .int .i64 0, .slice none 0 0, .int .i64 0, .int .i64 0, .slice none 0 0] 43) = A2 := ⟨_, rfl⟩
  have s1 : A1.heap.size = H + 1 := by rw [← hA1, ← hH]; simp
  have s2 : A2.heap.size = H + 2 := by rw [← hA2]; simp; omega
  have x1 : Ext w A1 := by rw [← hA1]; exact ext_al _ _
  have x2 : Ext A1 A2 := by rw [← hA2]; exact ext_al _ _
  have bx : OpBx A2 H kd k a1 n1 c1 qq bb a2 n2 c2 := by
    have : OpBx A1 H kd k a1 n1 c1 qq bb a2 n2 c2 := by rw [← hA1, ← hH]; exact opbx_new w kd k a1 n1 c1 qq bb a2 n2 c2
    exact this.ext x2
  have br : OpBx A2 (H + 1) 0 0 none 0 0 0 0 none 0 0 := by rw [← hA2, ← s1]; exact opbx_new A1 0 0 none 0 0 0 0 none 0 0
  have hA : (w.alloc (.cells #[.int .i64 kd, .int .i64 k, .slice a1 n1 c1, .int .i64 qq, .int .i64 bb, .slice a2 n2 c2] 43)).alloc (.cells #[.int .i64 0, .int .i64 0, .slice none 0 0, .int .i64 0, .int .i64 0, .slice none 0 0] 43) = A2 := by rw [hA1, hA2]
  have E0 := x1.trans x2
  have HA := Lib.hid hA; have HE0 := Lib.hid E0; have Hbx := Lib.hid bx; have Hbr := Lib.hid br; have HI := Lib.hid (h.ext E0); have Hs2 := Lib.hid s2; have HhH := Lib.hid hH
  clear h hA1 hA2 s1 s2 x1 x2 bx br hA E0
  by_cases hk : kd = 1
  · have b1 : (kd == 1) = true := eq_t hk
    have HT := Lib.hid hk
    have m0 := Hbx.out.x0; have m1 := Hbx.out.x1
    have r0 := Hbr.out.x0; have r1 := Hbr.out.x1; have r2 := Hbr.out.x2; have r3 := Hbr.out.x3; have r4 := Hbr.out.x4; have r5 := Hbr.out.x5
    have g0 := Hbr.out.f 0; have g1 := Hbr.out.f 1; have g2 := Hbr.out.f 2; have g3 := Hbr.out.f 3; have g4 := Hbr.out.f 4; have g5 := Hbr.out.f 5
    have bz := Hbr.out.store 4 k none 0 0 q 0 none 0 0
    have hO := onl6 A2 (H + 1) (.int .i64 4) (.int .i64 k) (.slice none 0 0) (.int .i64 q) (.int .i64 0) (.slice none 0 0)
    have HEz := Lib.hid (ext_only HE0.out hO (by omega))
    have Hbz := Lib.hid bz
    clear hk hO bz
    go_enter Tryd.func33, Tryd.ntmps33
    go_upto_region 1 with fail
    rw [HA.out]
    go_wp2_with fail
    generalize (((((A2.setCell ⟨H + 1, 0, none⟩ (.int .i64 4)).setCell ⟨H + 1, 1, none⟩ (.int .i64 k)).setCell ⟨H + 1, 2, none⟩ (.slice none 0 0)).setCell ⟨H + 1, 3, none⟩ (.int .i64 q)).setCell ⟨H + 1, 4, none⟩ (.int .i64 0)).setCell ⟨H + 1, 5, none⟩ (.slice none 0 0) = Wz at *
    have z0 := Hbz.out.x0; have z1 := Hbz.out.x1; have z2 := Hbz.out.x2; have z3 := Hbz.out.x3; have z4 := Hbz.out.x4; have z5 := Hbz.out.x5
    exact bodyPost_ret (v := .agg #[.int .i64 4, .int .i64 k, .slice none 0 0, .int .i64 q, .int .i64 0, .slice none 0 0]) (by simp [results, Tryd.results33, go_sem, z0, z1, z2, z3, z4, z5]) rfl ⟨Or.inl ⟨HT.out, rfl⟩, HEz.out⟩
  · have b1 : (kd == 1) = false := bf' hk
    have HT := Lib.hid hk
    have m0 := Hbx.out.x0
    have Eq := ext_al A2 (.cells #[.int .i64 q] 3)
    have e2 := (Hbx.out.ext Eq).x2
    have Hown1 := Lib.hid (World.ownsRow_lit (base := A2.heap.size) (e := 3) (size := 1) A2 #[.int .i64 q] 1 (Nat.le_refl _) (by unfold maxLen; omega) rfl)
    have Hi1 := Lib.hid (HI.out.ext Eq)
    have key : ∀ (v7 : Value) (w7 : World), w7.ownsRow A2.heap.size 3 1 v7 (1 + n1) (iC (q :: ctl)) → (A2.alloc (.cells #[.int .i64 q] 3)).grownBy w7 (some A2.heap.size) → ∃ a7 c7, v7 = .slice a7 (1 + n1) c7 ∧ Iow w7 A2.heap.size a7 (1 + n1) c7 (q :: ctl) ∧ Ext A2 w7 := fun v7 w7 h1 h2 => by
      obtain ⟨a7, c7, e, h3⟩ := io_of_own h1
      exact ⟨a7, c7, e, h3, grown_ext (ext_al A2 _) h2 (fun k hk => by cases hk; exact Nat.le_refl _)⟩
    have HKey := Lib.hid key
    have fin : ∀ (w7 : World) (a7 : Option Addr) (m7 c7 : Nat), Iow w7 A2.heap.size a7 m7 c7 (q :: ctl) → Ext A2 w7 → ∃ Wz, ((((((w7.setCell ⟨H, 2, none⟩ (.slice a7 m7 c7)).setCell ⟨H + 1, 0, none⟩ (.int .i64 kd)).setCell ⟨H + 1, 1, none⟩ (.int .i64 k)).setCell ⟨H + 1, 2, none⟩ (.slice a7 m7 c7)).setCell ⟨H + 1, 3, none⟩ (.int .i64 qq)).setCell ⟨H + 1, 4, none⟩ (.int .i64 bb)).setCell ⟨H + 1, 5, none⟩ (.slice a2 n2 c2) = Wz ∧ OpBx Wz (H + 1) kd k a7 m7 c7 qq bb a2 n2 c2 ∧ Iow Wz H a7 m7 c7 (q :: ctl) ∧ Ext w Wz := fun w7 a7 m7 c7 hI hE => by
      have b7 := Hbx.out.ext hE; have r7 := Hbr.out.ext hE
      have hO1 := only1 w7 H 2 (.slice a7 m7 c7)
      have r8 : OpBx (w7.setCell ⟨H, 2, none⟩ (.slice a7 m7 c7)) (H + 1) 0 0 none 0 0 0 0 none 0 0 := ⟨(hO1.block _ (by omega)).trans r7.row⟩
      have hO2 := onl6 (w7.setCell ⟨H, 2, none⟩ (.slice a7 m7 c7)) (H + 1) (.int .i64 kd) (.int .i64 k) (.slice a7 m7 c7) (.int .i64 qq) (.int .i64 bb) (.slice a2 n2 c2)
      exact ⟨_, rfl, r8.store kd k a7 m7 c7 qq bb a2 n2 c2, ((hI.keep (only_ints b7.row (by decide) hO1)).keep (only_ints r8.row (by decide) hO2)).down (by have := Hs2.out; omega), ext_only (ext_only (HE0.out.trans hE) hO1 (by omega)) hO2 (by omega)⟩
    have HFin := Lib.hid fin
    clear hk key fin Eq
    go_enter Tryd.func33, Tryd.ntmps33
    go_upto_region 1 with fail
    rw [HA.out]
    cases a1 with
    | none =>
      have hm0 : n1 = 0 ∧ c1 = 0 := by
        rcases Hi1.out.2 with ⟨e, h0⟩ | ⟨g, cap, cur, e, _⟩
        · injection e with _ _ e3; exact ⟨h0, e3⟩
        · injection e with e1; cases e1
      obtain ⟨rfl, rfl⟩ := hm0
      have hct : ctl = [] := List.length_eq_zero_iff.1 (by have := Hi1.out.1; simpa [iC] using this)
      subst hct
      obtain ⟨a7, c7, ha7, hI7, hE7⟩ := HKey.out (.slice (some ⟨A2.heap.size, 0, none⟩) 1 1) (A2.alloc (.cells #[.int .i64 q] 3)) Hown1.out ⟨rfl, rfl, rfl, Nat.le_refl _, fun _ _ _ => rfl⟩
      injection ha7 with ea en ec
      clear en
      subst ea; subst ec
      obtain ⟨Wz, hWz, hbz, hIz, hEz⟩ := HFin.out _ _ 1 1 hI7 hE7
      have HWz := Lib.hid hWz; have Hbz := Lib.hid hbz; have HIz := Lib.hid hIz; have HEz := Lib.hid hEz
      have b7 := Hbx.out.ext hE7; have r7 := Hbr.out.ext hE7
      have m0' := b7.x0; have m1 := b7.x1; have m3 := b7.x3; have m4 := b7.x4; have m5 := b7.x5; have f2 := b7.f 2
      have r0 := r7.x0; have r1 := r7.x1; have r2 := r7.x2; have r3 := r7.x3; have r4 := r7.x4; have r5 := r7.x5
      have g0 := r7.f 0; have g1 := r7.f 1; have g2 := r7.f 2; have g3 := r7.f 3; have g4 := r7.f 4; have g5 := r7.f 5
      clear hI7 hE7 hWz hbz hIz hEz b7 r7
      go_wp2_with (at_builtin; refine wpList_append_own_none rfl _ _ 25 rfl A2.heap.size 3 j0 1 Tryd.underlying25 hj _ _ _ rfl Hown1.out rfl ?_)
      rw [HWz.out]
      have z0 := Hbz.out.x0; have z1 := Hbz.out.x1; have z2 := Hbz.out.x2; have z3 := Hbz.out.x3; have z4 := Hbz.out.x4; have z5 := Hbz.out.x5
      exact bodyPost_ret (v := .agg #[.int .i64 kd, .int .i64 k, .slice (some ⟨A2.heap.size, 0, none⟩) 1 1, .int .i64 qq, .int .i64 bb, .slice a2 n2 c2]) (by simp [results, Tryd.results33, go_sem, z0, z1, z2, z3, z4, z5]) rfl ⟨Or.inr ⟨HT.out, _, _, _, rfl, HIz.out⟩, HEz.out⟩
    | some ad =>
      obtain ⟨g1, rfl⟩ : ∃ g1, ad = ⟨g1, 0, none⟩ := by
        rcases Hi1.out.2 with ⟨e, h0⟩ | ⟨g, cap, cur, e, _⟩
        · injection e with e1; cases e1
        · injection e with e1; cases e1; exact ⟨g, rfl⟩
      have Hlen := Lib.hid (show (iC ctl).length = n1 * 1 from Hi1.out.1); have Hcls := Lib.hid (World.ownsRow.cells Hi1.out (g := g1) rfl); have Hio := Lib.hid (iC_one ctl)
      go_upto_region 4 with (at_builtin; refine wpList_append_own _ rfl _ _ 25 rfl A2.heap.size 3 j0 (.int .i64 0) 1 8 Tryd.underlying25 hj hy0 hy1 hy2 rfl (by decide) _ _ _ rfl Hown1.out ⟨g1, 0, none⟩ n1 c1 (iC ctl) rfl Hlen.out Hcls.out Hio.out (by unfold maxLen; omega) (by omega) (ext_al A2 _).size ?_; intro v7 w7 hown7 hgr7 _; obtain ⟨a7, c7, rfl, hI7, hE7⟩ := HKey.out _ _ hown7 hgr7; have hb7 := Hbx.out.ext hE7; have e2' := hb7.x2; have f2 := hb7.f 2)
      obtain ⟨Wz, hWz, hbz, hIz, hEz⟩ := HFin.out _ _ (1 + n1) c7 hI7 hE7
      have HWz := Lib.hid hWz; have Hbz := Lib.hid hbz; have HIz := Lib.hid hIz; have HEz := Lib.hid hEz
      have b8 := hb7.set2 a7 (1 + n1) c7
      have m0' := b8.x0; have m1 := b8.x1; have m2 := b8.x2; have m3 := b8.x3; have m4 := b8.x4; have m5 := b8.x5
      have r8 : OpBx (w7.setCell ⟨H, 2, none⟩ (.slice a7 (1 + n1) c7)) (H + 1) 0 0 none 0 0 0 0 none 0 0 := ⟨((only1 w7 H 2 (.slice a7 (1 + n1) c7)).block _ (by omega)).trans (Hbr.out.ext hE7).row⟩
      have r0 := r8.x0; have r1 := r8.x1; have r2 := r8.x2; have r3 := r8.x3; have r4 := r8.x4; have r5 := r8.x5
      have g0 := r8.f 0; have g1 := r8.f 1; have g2 := r8.f 2; have g3 := r8.f 3; have g4 := r8.f 4; have g5 := r8.f 5
      clear hI7 hE7 hWz hbz hIz hEz b8 r8 hb7 hown7 hgr7 e2' e2 m0 f2
      generalize w7.setCell ⟨H, 2, none⟩ (.slice a7 (1 + n1) c7) = V at *
      go_wp2_with fail
      rw [HWz.out]
      have z0 := Hbz.out.x0; have z1 := Hbz.out.x1; have z2 := Hbz.out.x2; have z3 := Hbz.out.x3; have z4 := Hbz.out.x4; have z5 := Hbz.out.x5
      exact bodyPost_ret (v := .agg #[.int .i64 kd, .int .i64 k, .slice a7 (1 + n1) c7, .int .i64 qq, .int .i64 bb, .slice a2 n2 c2]) (by simp [results, Tryd.results33, go_sem, z0, z1, z2, z3, z4, z5]) rfl ⟨Or.inr ⟨HT.out, _, _, _, rfl, HIz.out⟩, HEz.out⟩

end Go.Proofs.YtapolidgocfbjaaDoor
