/-
  The program's Move.
-/
import Derived.Test.YtapolidgocfbjaaDoorProg
import Derived.Test.YtapolidgocfbjaaDoorRows
import Derived.BigQuiet
import Derived.Deep.AppendLies
import Derived.Deep.Cut
import Derived.Deep.CutRange
import Derived.Deep.LoopGhost
import Derived.Deep.QuietTactic
import Derived.Deep.RegionHeld3
import Derived.Defers
import Derived.Laws.AppendOwnNone
import Derived.Laws.Bits64b
import Derived.Laws.Concat
import Derived.Laws.CopyOwn
import Derived.Laws.IdiomStrings
import Derived.Laws.ResultCell
import Derived.Lib.AppendStr
import Derived.Lib.AppendZeros
import Derived.Lib.AppendZerosOnto
import Derived.Lib.BitFns
import Derived.Lib.Hide
import Derived.Lib.ItoaMem
import Derived.Lib.ItoaNum
import Derived.Lib.Strings
import Derived.Maps.AppendAt
import Derived.OwnWalk
import Derived.Recover
import Derived.Shelf.LaysM
import Derived.Shelf.Strconv.Itoa0
import Derived.Shelf.Strconv.Itoa1
import Derived.Shelf.Strconv.Itoa2
import Derived.Shelf.Strconv.Itoa3
import Derived.Shelf.Strings.Builder1
import Derived.Shelf.Strings.BuilderF
import Derived.Shelf.Strings.BuilderK
import Derived.WalkKit
import Derived.WalkLawsBesides
import Derived.WalkSpells
import Derived.Test.YtapolidgocfbjaaDoorS00Ce
import Derived.Test.YtapolidgocfbjaaDoorS01Cj
import Derived.Test.YtapolidgocfbjaaDoorShelf
import Derived.Test.YtapolidgocfbjaaDoorS03Cq
import Derived.Test.YtapolidgocfbjaaDoorS04Jc
import Derived.Test.YtapolidgocfbjaaDoorS05Gb
import Derived.Test.YtapolidgocfbjaaDoorS06Ke
import Derived.Test.YtapolidgocfbjaaDoorS07Kf
import Derived.Test.YtapolidgocfbjaaDoorS08Kd
import Derived.Test.YtapolidgocfbjaaDoorS09Km
import Derived.Test.YtapolidgocfbjaaDoorS10Ku
namespace Go.Proofs.YtapolidgocfbjaaDoor
open Go.RowKit

section
variable {a w' : World} {v : Value} {g : Nat}
theorem CiB_grownI {qb bi : Int} {ao : Option Addr} {n cp : Nat} (hg : a.grownBy w' v.ownBlock) (hk : ∀ k, v.ownBlock = some k → ∃ cs fr, a.heap[k]? = some (.cells cs 3 fr)) (h : CiB a g qb bi ao n cp) : CiB w' g qb bi ao n cp :=
  ⟨(hg.block g h.lt (fun e => by obtain ⟨cs, fr, e2⟩ := hk g e.symm; rw [h.row] at e2; cases e2)).trans h.row⟩
theorem FtB_grownI {x y : Int} (hg : a.grownBy w' v.ownBlock) (hk : ∀ k, v.ownBlock = some k → ∃ cs fr, a.heap[k]? = some (.cells cs 3 fr)) (h : FtB a g x y) : FtB w' g x y :=
  ⟨(hg.block g h.lt (fun e => by obtain ⟨cs, fr, e2⟩ := hk g e.symm; rw [h.row] at e2; cases e2)).trans h.row⟩
theorem OpBx_grownI {k0 k1 : Int} {a1 : Option Addr} {n1 c1 : Nat} {k3 k4 : Int} {a2 : Option Addr} {n2 c2 : Nat} (hg : a.grownBy w' v.ownBlock) (hk : ∀ k, v.ownBlock = some k → ∃ cs fr, a.heap[k]? = some (.cells cs 3 fr)) (h : OpBx a g k0 k1 a1 n1 c1 k3 k4 a2 n2 c2) : OpBx w' g k0 k1 a1 n1 c1 k3 k4 a2 n2 c2 :=
  ⟨(hg.block g h.lt (fun e => by obtain ⟨cs, fr, e2⟩ := hk g e.symm; rw [h.row] at e2; cases e2)).trans h.row⟩
theorem row_grownI {cur : Array Value} {fr : Nat × Nat} (hg : a.grownBy w' v.ownBlock) (hk : ∀ k, v.ownBlock = some k → ∃ cs fr, a.heap[k]? = some (.cells cs 3 fr)) (h : a.heap[g]? = some (.cells cur 43 fr)) : w'.heap[g]? = some (.cells cur 43 fr) :=
  (hg.block g (Array.getElem?_eq_some_iff.1 h).1 (fun e => by obtain ⟨cs, fr, e2⟩ := hk g e.symm; rw [h] at e2; cases e2)).trans h
end

set_option maxHeartbeats 8000000 in
set_option maxRecDepth 100000 in
theorem Move_U (c : Gci) (ao : Option Addr) (n cp : Nat) (tl : List Int) (ta : Option Addr) (tn tc : Nat) (m : Int) (w : World) (h : OpsAt w ao n c.ops) (hn : n ≤ cp) (hcp : cp ≤ 9223372036854775807) (ht : IntsAt w ta tn tl) (htc : tn ≤ tc) (htm : tc ≤ 9223372036854775807) (hS : Shp w) :
    Calls Tryd.prog 13 #[.agg #[.int .i64 c.qubits, .int .i64 c.bits, .slice ao n cp], .slice ta tn tc, .int .i64 m] w fun e w' => Ans w w' e (movM c tl m) ∧ Ext w w' := by
  have hl : c.ops.length = n := h.1
  have hlt : tl.length = tn := ht.1
  obtain ⟨FC, hFC⟩ : ∃ F, chk c = F := ⟨_, rfl⟩
  obtain ⟨R, hR⟩ : ∃ R, movM c tl m = R := ⟨_, rfl⟩
  have hfit : FC.1 = 0 → n ≤ 4096 ∧ (1 ≤ c.qubits ∧ c.qubits ≤ 12) ∧ ∀ g ∈ c.ops, (g.ctl.length ≤ 1000 ∧ g.cnd.length ≤ 1000) ∧ 1 ≤ g.kind ∧ g.kind ≤ 6 ∧ (¬ g.kind = 1 → 0 ≤ g.q ∧ g.q < c.qubits) ∧ (∀ x ∈ g.ctl, 0 ≤ x ∧ x < c.qubits) := fun h => by
    rw [← hFC] at h
    obtain ⟨_, h1, h2, h3, h4, h5, h6⟩ := chk_zero h
    refine ⟨by omega, ⟨h1, h2⟩, fun g hg => ?_⟩
    have f := prFit_of_code h2 h3 h4 (h6 g hg)
    exact ⟨⟨Nat.le_trans f.few (by decide), Nat.le_trans f.cfew (by decide)⟩, (opCode_kind (h6 g hg)).1, (opCode_kind (h6 g hg)).2, fun hk => q_below (h6 g hg) hk, (fit_of_code h2 h3 h4 (h6 g hg)).2.2.2⟩
  have hR1 : FC.1 ≠ 0 → R = (FC, noC) := fun hh => by
    rw [← hR]; exact movM_no (u := FC.1) (v := FC.2) (by unfold movF; rw [hFC, if_pos hh]) hh
  have hR2 : FC.1 = 0 → (m < 1 ∨ 12 < m) → R = ((6, 0), noC) := fun h1 h2 => by
    rw [← hR]; exact movM_no (by unfold movF; rw [hFC, if_neg (by simp [h1]), if_pos h2]) (by decide)
  have hR3 : FC.1 = 0 → ¬ (m < 1 ∨ 12 < m) → (tn : Int) ≠ c.qubits → R = ((17, 0), noC) := fun h1 h2 h3 => by
    rw [← hR]; exact movM_no (by unfold movF; rw [hFC, if_neg (by simp [h1]), if_neg h2, hlt, if_pos h3]) (by decide)
  have hR4 : FC.1 = 0 → ¬ (m < 1 ∨ 12 < m) → (tn : Int) = c.qubits → ∀ t : Int, mpF m tl 0 tl = (17, t) → R = ((17, t), noC) := fun h1 h2 h3 t ht => by
    rw [← hR]; exact movM_no (by unfold movF; rw [hFC, if_neg (by simp [h1]), if_neg h2, hlt, if_neg (by simp [h3]), ht]) (by decide)
  have hR5 : FC.1 = 0 → ¬ (m < 1 ∨ 12 < m) → (tn : Int) = c.qubits → mpF m tl 0 tl = (0, 0) → R = ((0, 0), ⟨m, c.bits, c.ops.map (movO tl)⟩) := fun h1 h2 h3 ht => by
    rw [← hR]; exact movM_yes (by unfold movF; rw [hFC, if_neg (by simp [h1]), if_neg h2, hlt, if_neg (by simp [h3]), ht])
  rw [hR]
  clear hR
  obtain ⟨qb, bi, ops⟩ := c
  obtain ⟨uc, vc⟩ := FC
  simp only at hfit hl h hR1 hR2 hR3 hR4 hR5 ⊢
  obtain ⟨H, hH⟩ : ∃ H, w.heap.size = H := ⟨_, rfl⟩
  obtain ⟨A1, hA1⟩ : ∃ A1, w.alloc (.cells #[.int .i64 qb, .int .i64 bi, .slice ao n cp] 24) = A1 := ⟨_, rfl⟩
  obtain ⟨A2, hA2⟩ : ∃ A2, A1.alloc (.cells #[.int .i64 0, .int .i64 0, .slice none 0 0] 24) = A2 := ⟨_, rfl⟩
  obtain ⟨A3, hA3⟩ : ∃ A3, A2.alloc (.cells #[.int .i64 0, .int .i64 0] 28) = A3 := ⟨_, rfl⟩
  have s1 : A1.heap.size = H + 1 := by rw [← hA1, ← hH]; simp
  have s2 : A2.heap.size = H + 2 := by rw [← hA2]; simp; omega
  have s3 : A3.heap.size = H + 3 := by rw [← hA3]; simp; omega
  have x1 : Ext w A1 := by rw [← hA1]; exact ext_al _ _
  have x2 : Ext A1 A2 := by rw [← hA2]; exact ext_al _ _
  have x3 : Ext A2 A3 := by rw [← hA3]; exact ext_al _ _
  have bC : CiB A3 H qb bi ao n cp := by
    have : CiB A1 H qb bi ao n cp := by rw [← hA1, ← hH]; exact ⟨heap_alloc_new w _⟩
    exact (this.ext x2).ext x3
  have bR : CiB A3 (H + 1) 0 0 none 0 0 := by
    have : CiB A2 (H + 1) 0 0 none 0 0 := by rw [← hA2, ← s1]; exact ⟨heap_alloc_new A1 _⟩
    exact this.ext x3
  have bF : FtB A3 (H + 2) 0 0 := by rw [← hA3, ← s2]; exact ⟨heap_alloc_new A2 _⟩
  have E0 : Ext w A3 := (x1.trans x2).trans x3
  have hA : ((w.alloc (.cells #[.int .i64 qb, .int .i64 bi, .slice ao n cp] 24)).alloc (.cells #[.int .i64 0, .int .i64 0, .slice none 0 0] 24)).alloc (.cells #[.int .i64 0, .int .i64 0] 28) = A3 := by rw [hA1, hA2, hA3]
  have HK := Lib.hid (Check_any ⟨qb, bi, ops⟩ ao n cp A3 (h.ext E0) hn hcp (hS.ext E0))
  rw [hFC] at HK
  simp only at HK
  have m0 := bC.x0; have m1 := bC.x1; have m2 := bC.x2
  rw [← hA] at m0 m1 m2
  have HA := Lib.hid hA; have HE0 := Lib.hid E0; have HC := Lib.hid bC; have HR := Lib.hid bR; have HFt := Lib.hid bF
  have Hops := Lib.hid h; have Hfit := Lib.hid hfit; have Hl := Lib.hid hl; have Hs3 := Lib.hid s3; have HhH := Lib.hid hH; have HSh := Lib.hid hS; have Hto := Lib.hid ht; have Hlt := Lib.hid hlt
  have HR1 := Lib.hid hR1; have HR2 := Lib.hid hR2; have HR3 := Lib.hid hR3; have HR4 := Lib.hid hR4; have HR5 := Lib.hid hR5
  have HIb := Lib.hid (fun x wx => isBelow_any x m wx); have HCq := Lib.hid (fun wx => countsQubits_any m wx)
  clear h E0 bC bR bF x1 x2 x3 s1 s2 s3 hA1 hA2 hA3 hA hfit hl hFC hR1 hR2 hR3 hR4 hR5 hS ht hlt
  go_enter Tryd.func13, Tryd.ntmps13
  go_wp2_with fail
  rw [HA.out]
  refine HK.out.mono ?_
  rintro e w1 ⟨rfl, hx1⟩
  have Ef := ext_al w1 (.cells #[.int .i64 uc, .int .i64 vc] 28)
  have bf1 : FtB (w1.alloc (.cells #[.int .i64 uc, .int .i64 vc] 28)) w1.heap.size uc vc := ⟨heap_alloc_new w1 _⟩
  have hX := hx1.trans Ef
  have d0 := bf1.x0; have d1 := bf1.x1
  have HbC := Lib.hid (HC.out.ext hX); have HbR := Lib.hid (HR.out.ext hX); have HbF := Lib.hid (HFt.out.ext hX); have HbE := Lib.hid (HE0.out.trans hX)
  have Hlo := Lib.hid (show H + 3 ≤ w1.heap.size by have h1 := hx1.size; have h2 := Hs3.out; omega)
  clear hx1 Ef bf1 hX HK HC HR HFt HE0 m0 m1 m2
  go_upto_region 2 with fail
  generalize w1.alloc (.cells #[.int .i64 uc, .int .i64 vc] 28) = W1 at *
  obtain ⟨Fb, hFb⟩ : ∃ y, w1.heap.size = y := ⟨_, rfl⟩
  rw [hFb] at Hlo d0 d1 ⊢
  have nF1 : Fb ≠ H + 1 := by have := Hlo.out; omega
  have nF2 : Fb ≠ H + 2 := by have := Hlo.out; omega
  clear hFb
  by_cases hu : uc = 0
  rotate_left 1
  · have nu := nt hu; have nb := bf hu
    have HRz := Lib.hid (HR1.out hu)
    clear hu
    have r0 := HbR.out.x0; have r1 := HbR.out.x1; have r2 := HbR.out.x2; have g0 := HbR.out.f 0; have g1 := HbR.out.f 1; have g2 := HbR.out.f 2
    have f0 := HbF.out.x0; have f1 := HbF.out.x1; have k0 := HbF.out.f 0; have k1 := HbF.out.f 1
    have zC := (putCF_C HbR.out (show H + 1 ≠ H + 2 by omega) 0 0 none 0 0 uc vc).drew
    have zF := (putCF_F HbF.out (show H + 1 ≠ H + 2 by omega) 0 0 none 0 0 uc vc).drew
    have zE : Ext w (putCF W1 (H + 1) (H + 2) 0 0 none 0 0 uc vc).drew := Below.drew (putCF_ext HbE.out (show w.heap.size ≤ H + 1 by omega) (show w.heap.size ≤ H + 2 by omega) _ _ _ _ _ _ _)
    obtain ⟨Wz, hWz⟩ : ∃ Wz, putCF W1 (H + 1) (H + 2) 0 0 none 0 0 uc vc = Wz := ⟨_, rfl⟩
    rw [hWz] at zC zF zE
    unfold putCF at hWz
    have HWz := Lib.hid hWz; have HzE := Lib.hid zE
    have v0 := zC.x0; have v1 := zC.x1; have v2 := zC.x2; have v3 := zF.x0; have v4 := zF.x1
    have HAns := Lib.hid (show ∀ e : Ending, e = .returned (.tuple #[.agg #[.int .i64 0, .int .i64 0, .slice none 0 0], .agg #[.int .i64 uc, .int .i64 vc]]) → Ans w Wz.drew e R from fun e he => by rw [HRz.out]; exact Ans.none he)
    clear zC zF zE hWz
    go_upto_region 3 with fail
    go_region
    go_wp2_with fail
    rw [HWz.out]
    exact bodyPost_ret (v := .tuple #[.agg #[.int .i64 0, .int .i64 0, .slice none 0 0], .agg #[.int .i64 uc, .int .i64 vc]]) (by simp [results, Tryd.results13, go_sem, v0, v1, v2, v3, v4]) rfl ⟨HAns.out _ rfl, HzE.out⟩
  have nu := nf' hu
  have Hu := Lib.hid hu
  clear hu
  have l0 := HbC.out.x0; have l1 := HbC.out.x1; have l2 := HbC.out.x2
  obtain ⟨bel, hbel⟩ : ∃ y, (decide (1 ≤ m) && decide (m ≤ 12)) = y := ⟨_, rfl⟩
  rw [hbel] at HCq
  have hbq : bel = true ↔ ¬ (m < 1 ∨ 12 < m) := by
    rw [← hbel]; simp
  have Hbq := Lib.hid hbq
  clear hbel hbq
  go_wp2_with fail
  refine (HCq.out W1).mono ?_
  rintro e wz ⟨rfl, hwz⟩
  subst hwz
  cases bel with
  | false =>
    have HRz := Lib.hid (HR2.out Hu.out (Decidable.byContradiction fun hh => absurd (Hbq.out.2 (by omega)) (by decide)))
    clear d0 d1 l0 l1 l2 HbC
    have r0 := HbR.out.x0; have r1 := HbR.out.x1; have r2 := HbR.out.x2; have g0 := HbR.out.f 0; have g1 := HbR.out.f 1; have g2 := HbR.out.f 2
    have f0 := HbF.out.x0; have f1 := HbF.out.x1; have k0 := HbF.out.f 0; have k1 := HbF.out.f 1
    have zC := (putCF_C HbR.out (show H + 1 ≠ H + 2 by omega) 0 0 none 0 0 6 0)
    have zF := (putCF_F HbF.out (show H + 1 ≠ H + 2 by omega) 0 0 none 0 0 6 0)
    have zE : Ext w (putCF wz (H + 1) (H + 2) 0 0 none 0 0 6 0) := (putCF_ext HbE.out (show w.heap.size ≤ H + 1 by omega) (show w.heap.size ≤ H + 2 by omega) _ _ _ _ _ _ _)
    obtain ⟨Wz, hWz⟩ : ∃ Wz, putCF wz (H + 1) (H + 2) 0 0 none 0 0 6 0 = Wz := ⟨_, rfl⟩
    rw [hWz] at zC zF zE
    unfold putCF at hWz
    have HWz := Lib.hid hWz; have HzE := Lib.hid zE
    have v0 := zC.x0; have v1 := zC.x1; have v2 := zC.x2; have v3 := zF.x0; have v4 := zF.x1
    have HAns := Lib.hid (show ∀ e : Ending, e = .returned (.tuple #[.agg #[.int .i64 0, .int .i64 0, .slice none 0 0], .agg #[.int .i64 6, .int .i64 0]]) → Ans w Wz e R from fun e he => by rw [HRz.out]; exact Ans.none he)
    clear zC zF zE hWz
    go_wp2_with fail
    rw [HWz.out]
    exact bodyPost_ret (v := .tuple #[.agg #[.int .i64 0, .int .i64 0, .slice none 0 0], .agg #[.int .i64 6, .int .i64 0]]) (by simp [results, Tryd.results13, go_sem, v0, v1, v2, v3, v4]) rfl ⟨HAns.out _ rfl, HzE.out⟩
  | true =>
  have Hq := Lib.hid (show ¬ (m < 1 ∨ 12 < m) by have hh := Hbq.out.1 (by trivial); omega)
  by_cases hlen : (tn : Int) = qb
  rotate_left 1
  · have h1 := nt' hlen; have h2 := bf' hlen
    have HRz := Lib.hid (HR3.out Hu.out (by have := Hq.out; omega) hlen)
    clear hlen d0 d1 l1 l2
    have r0 := HbR.out.x0; have r1 := HbR.out.x1; have r2 := HbR.out.x2; have g0 := HbR.out.f 0; have g1 := HbR.out.f 1; have g2 := HbR.out.f 2
    have f0 := HbF.out.x0; have f1 := HbF.out.x1; have k0 := HbF.out.f 0; have k1 := HbF.out.f 1
    have zC := (putCF_C HbR.out (show H + 1 ≠ H + 2 by omega) 0 0 none 0 0 17 0)
    have zF := (putCF_F HbF.out (show H + 1 ≠ H + 2 by omega) 0 0 none 0 0 17 0)
    have zE : Ext w (putCF wz (H + 1) (H + 2) 0 0 none 0 0 17 0) := (putCF_ext HbE.out (show w.heap.size ≤ H + 1 by omega) (show w.heap.size ≤ H + 2 by omega) _ _ _ _ _ _ _)
    obtain ⟨Wz, hWz⟩ : ∃ Wz, putCF wz (H + 1) (H + 2) 0 0 none 0 0 17 0 = Wz := ⟨_, rfl⟩
    rw [hWz] at zC zF zE
    unfold putCF at hWz
    have HWz := Lib.hid hWz; have HzE := Lib.hid zE
    have v0 := zC.x0; have v1 := zC.x1; have v2 := zC.x2; have v3 := zF.x0; have v4 := zF.x1
    have HAns := Lib.hid (show ∀ e : Ending, e = .returned (.tuple #[.agg #[.int .i64 0, .int .i64 0, .slice none 0 0], .agg #[.int .i64 17, .int .i64 0]]) → Ans w Wz e R from fun e he => by rw [HRz.out]; exact Ans.none he)
    clear zC zF zE hWz
    go_wp2_with fail
    rw [HWz.out]
    exact bodyPost_ret (v := .tuple #[.agg #[.int .i64 0, .int .i64 0, .slice none 0 0], .agg #[.int .i64 17, .int .i64 0]]) (by simp [results, Tryd.results13, go_sem, v0, v1, v2, v3, v4]) rfl ⟨HAns.out _ rfl, HzE.out⟩
  have h1 := ne_f hlen; have h2 := eq_t hlen
  have Hlen := Lib.hid hlen
  obtain ⟨hn4, hqb, hfit⟩ := Hfit.out Hu.out
  have Hft := Lib.hid hfit; have Hqb := Lib.hid hqb
  have HR4' := Lib.hid (HR4.out Hu.out (by have := Hq.out; omega) Hlen.out)
  have HR5' := Lib.hid (HR5.out Hu.out (by have := Hq.out; omega) Hlen.out)
  clear hfit hqb hlen
  go_wp2_with fail
  clear d0 d1 nu l0 l1 l2 h1 h2
  go_loopg [9, 10, 37] tn (fun kk s9 s10 s37 wx => ∃ i : Nat, s37 = .int .i64 (i : Int) ∧ i ≤ tn ∧ tn - i = kk ∧ mpF m tl 0 tl = mpF m tl i (tl.drop i) ∧ wx = wz)
  case atStart => exact ⟨0, rfl, by omega, by omega, by rw [List.drop_zero], rfl⟩
  case round =>
    obtain ⟨i, rfl, hin', hk, hcl, rfl⟩ := hrel
    by_cases hin : i = tn
    rotate_left 1
    · have q1 : (i : Int) < (tn : Int) := by omega
      have q1' : decide ((i : Int) < (tn : Int)) = true := dt q1
      have q0 : (0 : Int) ≤ (i : Int) := by omega
      have q2 : (i : Int) ≤ (tc : Int) := by omega
      rw [mpF_step m tl i (by rw [Hlt.out]; omega)] at hcl
      have hat := Hto.out.ext HbE.out
      obtain ⟨tb, tof, rfl, htb, htc'⟩ := hat.at (by omega)
      have t0 := htc' i (by omega)
      obtain ⟨x, hx⟩ : ∃ y, tl.getD i 0 = y := ⟨_, rfl⟩
      rw [hx] at t0 hcl
      have HCn := Lib.hid (Contains_any (some ⟨tb, tof, none⟩) i tc (tl.take i) x wr (hat.take i (by omega)) (by omega) htm)
      have Hcl0 := Lib.hid hcl; have Hk := Lib.hid hk
      obtain ⟨bl, hbl⟩ : ∃ y, below x m = y := ⟨_, rfl⟩
      have HIx := Lib.hid (HIb.out x wr)
      rw [hbl] at HIx
      have Hbl := Lib.hid hbl
      clear hcl hk hat htb htc' hx hbl
      go_wp2_with fail
      refine HIx.out.mono ?_
      rintro e w4 ⟨rfl, hw4⟩
      subst hw4
      clear t0 HIx
      cases bl with
      | false =>
        have hcl := Hcl0.out
        rw [if_pos (Or.inl Hbl.out)] at hcl
        have HRz := Lib.hid (HR4'.out _ hcl)
        clear hcl HbC
        have r0 := HbR.out.x0; have r1 := HbR.out.x1; have r2 := HbR.out.x2; have g0 := HbR.out.f 0; have g1 := HbR.out.f 1; have g2 := HbR.out.f 2
        have f0 := HbF.out.x0; have f1 := HbF.out.x1; have k0 := HbF.out.f 0; have k1 := HbF.out.f 1
        have zC := (putCF_C HbR.out (show H + 1 ≠ H + 2 by omega) 0 0 none 0 0 17 (i : Int))
        have zF := (putCF_F HbF.out (show H + 1 ≠ H + 2 by omega) 0 0 none 0 0 17 (i : Int))
        have zE : Ext w (putCF w4 (H + 1) (H + 2) 0 0 none 0 0 17 (i : Int)) := (putCF_ext HbE.out (show w.heap.size ≤ H + 1 by omega) (show w.heap.size ≤ H + 2 by omega) _ _ _ _ _ _ _)
        obtain ⟨Wz, hWz⟩ : ∃ Wz, putCF w4 (H + 1) (H + 2) 0 0 none 0 0 17 (i : Int) = Wz := ⟨_, rfl⟩
        rw [hWz] at zC zF zE
        unfold putCF at hWz
        have HWz := Lib.hid hWz; have HzE := Lib.hid zE
        have v0 := zC.x0; have v1 := zC.x1; have v2 := zC.x2; have v3 := zF.x0; have v4 := zF.x1
        have HAns := Lib.hid (show ∀ e : Ending, e = .returned (.tuple #[.agg #[.int .i64 0, .int .i64 0, .slice none 0 0], .agg #[.int .i64 17, .int .i64 (i : Int)]]) → Ans w Wz e R from fun e he => by rw [HRz.out]; exact Ans.none he)
        clear zC zF zE hWz
        go_wp2_with fail
        rw [HWz.out]
        exact bodyPost_ret (v := .tuple #[.agg #[.int .i64 0, .int .i64 0, .slice none 0 0], .agg #[.int .i64 17, .int .i64 (i : Int)]]) (by simp [results, Tryd.results13, go_sem, v0, v1, v2, v3, v4]) rfl ⟨HAns.out _ rfl, HzE.out⟩
      | true =>
        obtain ⟨mb, hmb⟩ : ∃ y, decide (x ∈ tl.take i) = y := ⟨_, rfl⟩
        rw [hmb] at HCn
        have Hmb := Lib.hid hmb
        clear hmb
        go_wp2_with fail
        refine HCn.out.mono ?_
        rintro e w5 ⟨rfl, hw5⟩
        subst hw5
        clear HCn
        cases mb with
        | true =>
          have hcl := Hcl0.out
          rw [if_pos (Or.inr (of_decide_eq_true Hmb.out))] at hcl
          have HRz := Lib.hid (HR4'.out _ hcl)
          clear hcl HbC
          have r0 := HbR.out.x0; have r1 := HbR.out.x1; have r2 := HbR.out.x2; have g0 := HbR.out.f 0; have g1 := HbR.out.f 1; have g2 := HbR.out.f 2
          have f0 := HbF.out.x0; have f1 := HbF.out.x1; have k0 := HbF.out.f 0; have k1 := HbF.out.f 1
          have zC := (putCF_C HbR.out (show H + 1 ≠ H + 2 by omega) 0 0 none 0 0 17 (i : Int))
          have zF := (putCF_F HbF.out (show H + 1 ≠ H + 2 by omega) 0 0 none 0 0 17 (i : Int))
          have zE : Ext w (putCF w5 (H + 1) (H + 2) 0 0 none 0 0 17 (i : Int)) := (putCF_ext HbE.out (show w.heap.size ≤ H + 1 by omega) (show w.heap.size ≤ H + 2 by omega) _ _ _ _ _ _ _)
          obtain ⟨Wz, hWz⟩ : ∃ Wz, putCF w5 (H + 1) (H + 2) 0 0 none 0 0 17 (i : Int) = Wz := ⟨_, rfl⟩
          rw [hWz] at zC zF zE
          unfold putCF at hWz
          have HWz := Lib.hid hWz; have HzE := Lib.hid zE
          have v0 := zC.x0; have v1 := zC.x1; have v2 := zC.x2; have v3 := zF.x0; have v4 := zF.x1
          have HAns := Lib.hid (show ∀ e : Ending, e = .returned (.tuple #[.agg #[.int .i64 0, .int .i64 0, .slice none 0 0], .agg #[.int .i64 17, .int .i64 (i : Int)]]) → Ans w Wz e R from fun e he => by rw [HRz.out]; exact Ans.none he)
          clear zC zF zE hWz
          go_wp2_with fail
          rw [HWz.out]
          exact bodyPost_ret (v := .tuple #[.agg #[.int .i64 0, .int .i64 0, .slice none 0 0], .agg #[.int .i64 17, .int .i64 (i : Int)]]) (by simp [results, Tryd.results13, go_sem, v0, v1, v2, v3, v4]) rfl ⟨HAns.out _ rfl, HzE.out⟩
        | false =>
          have hcl := Hcl0.out
          rw [if_neg (fun hh => hh.elim (fun h => by rw [Hbl.out] at h; cases h) (fun h => of_decide_eq_false Hmb.out h))] at hcl
          have Hcl := Lib.hid hcl
          clear hcl
          go_wp2_with fail
          go_roundg (tn - (i + 1))
          case measure => have := Hk.out; omega
          case rel => exact ⟨i + 1, by go_num, by omega, rfl, Hcl.out, rfl⟩
    have q1 : ¬ (i : Int) < (tn : Int) := by omega
    have q1' : decide ((i : Int) < (tn : Int)) = false := df q1
    rw [hin, mpF_end m tl tn (by rw [Hlt.out]; omega)] at hcl
    have HRz := Lib.hid (HR5'.out hcl)
    have l0 := HbC.out.x0; have l1 := HbC.out.x1; have l2 := HbC.out.x2
    have Hin := Lib.hid hin
    clear hcl hk hin' hin
    go_wp2_with fail
    obtain ⟨W3, rfl⟩ : ∃ W3 : World, W3 = wr := ⟨_, rfl⟩
    refine (with_N qb bi ao n cp ao n cp ops W3 (Hops.out.ext HbE.out) (by omega) (fun g hg => (Hft.out g hg).1)).mono ?_
    rintro e w5 ⟨⟨av, cv, rfl, hO5⟩, hx5⟩
    clear l0 l1 l2
    have bO0 : CiB (w5.alloc (.cells #[.int .i64 qb, .int .i64 bi, .slice av n cv] 24)) w5.heap.size qb bi av n cv := ⟨heap_alloc_new w5 _⟩
    have y0 := bO0.x0; have y2 := bO0.x2; have f0 := bO0.f 0
    have Eo := ext_al w5 (.cells #[.int .i64 m, .int .i64 bi, .slice av n cv] 24)
    have bO6 : CiB (w5.alloc (.cells #[.int .i64 m, .int .i64 bi, .slice av n cv] 24)) w5.heap.size m bi av n cv := ⟨heap_alloc_new w5 _⟩
    have hX := hx5.trans Eo
    have HsF := Lib.hid (show H + 3 ≤ W3.heap.size by have := HbF.out.lt; omega)
    have hw53 : W3.heap.size ≤ w5.heap.size := hx5.size
    have HcR5 := Lib.hid (HbR.out.ext hX); have HcF5 := Lib.hid (HbF.out.ext hX); have HcE5 := Lib.hid (HbE.out.trans hX); have HO5 := Lib.hid bO6; have Hown5 := Lib.hid (hO5.ext Eo)
    have y2' := bO6.x2
    have HOlt := Lib.hid (show ∀ k, (Value.slice av n cv).ownBlock = some k → W3.heap.size + 3 ≤ k ∧ k < w5.heap.size from fun k hk => by
      obtain ⟨xs, hox⟩ := hO5
      exact own_lt hox.own k hk)
    have HOs := Lib.hid (show w5.heap.size < (w5.alloc (.cells #[.int .i64 m, .int .i64 bi, .slice av n cv] 24)).heap.size by simp)
    have Hw53 := Lib.hid hw53
    have HtoW := Lib.hid (show Ext w (w5.alloc (.cells #[.int .i64 m, .int .i64 bi, .slice av n cv] 24)) from HcE5.out)
    have Hww := Lib.hid (show w.heap.size ≤ W3.heap.size from HbE.out.size)
    clear hx5 hO5 Eo bO0 hX HbC HbR HbF HbE bO6 hw53
    go_upto_region 16 with fail
    generalize w5.alloc (.cells #[.int .i64 m, .int .i64 bi, .slice av n cv] 24) = W5 at *
    obtain ⟨Ob, hOb⟩ : ∃ y, w5.heap.size = y := ⟨_, rfl⟩
    rw [hOb] at HO5 HOlt HOs Hw53 y2' ⊢
    clear hOb y0 y2 f0
    obtain ⟨base, hbase⟩ : ∃ y, W3.heap.size + 3 = y := ⟨_, rfl⟩
    rw [hbase] at Hown5 HOlt
    have Hbb := Lib.hid (show H + 6 ≤ base by have := HsF.out; omega)
    have HbO := Lib.hid (show H + 3 ≤ Ob by have := HsF.out; have := Hw53.out; omega)
    have HwBs := Lib.hid (show w.heap.size ≤ base by have := Hww.out; omega)
    clear hbase
    go_wp2_with fail
    clear y2'
    go_loopg [12, 13, 66] n (fun kk s12 s13 s66 wx => ∃ i : Nat, s66 = .int .i64 (i : Int) ∧ i ≤ n ∧ n - i = kk ∧ CiB wx (H + 1) 0 0 none 0 0 ∧ FtB wx (H + 2) 0 0 ∧ CiB wx Ob m bi av n cv ∧ OpsN wx base (.slice av n cv) (mapF (movO tl) ops i) ∧ Ext w wx ∧ Ob < wx.heap.size)
    case atStart => exact ⟨0, rfl, by omega, by omega, HcR5.out, HcF5.out, HO5.out, by rw [mapF_zero]; exact Hown5.out, HcE5.out, HOs.out⟩
    case round =>
      clear HcR5 HcF5 HO5 Hown5 HcE5 HtoW
      obtain ⟨i, rfl, hin', hk, bR, bF, bO, hO, hX, hsO⟩ := hrel
      have hbO := HbO.out
      by_cases hin : i = n
      · have q1 : ¬ (i : Int) < (n : Int) := by omega
        have q1' : decide ((i : Int) < (n : Int)) = false := df q1
        rw [mapF_all (by rw [Hl.out]; omega)] at hO
        have y0 := bO.x0; have y1 := bO.x1; have y2 := bO.x2
        have r0 := bR.x0; have r1 := bR.x1; have r2 := bR.x2; have g0 := bR.f 0; have g1 := bR.f 1; have g2 := bR.f 2
        have f0 := bF.x0; have f1 := bF.x1; have k0 := bF.f 0; have k1 := bF.f 1
        have zC := putCF_C bR (show H + 1 ≠ H + 2 by omega) m bi av n cv 0 0
        have zF := putCF_F bF (show H + 1 ≠ H + 2 by omega) m bi av n cv 0 0
        have zO := (putCF_opsN hO bR bF (show H + 1 ≠ H + 2 by omega) m bi av n cv 0 0).down (show w.heap.size ≤ base by have := Hbb.out; omega)
        have zE : Ext w (putCF wr (H + 1) (H + 2) m bi av n cv 0 0) := putCF_ext hX (show w.heap.size ≤ H + 1 by omega) (show w.heap.size ≤ H + 2 by omega) _ _ _ _ _ _ _
        obtain ⟨Wz, hWz⟩ : ∃ Wz, putCF wr (H + 1) (H + 2) m bi av n cv 0 0 = Wz := ⟨_, rfl⟩
        rw [hWz] at zC zF zO zE
        unfold putCF at hWz
        have HWz := Lib.hid hWz; have HzE := Lib.hid zE
        have HAns := Lib.hid (show ∀ e : Ending, e = .returned (.tuple #[.agg #[.int .i64 m, .int .i64 bi, .slice av n cv], .agg #[.int .i64 0, .int .i64 0]]) → Ans w Wz e R from fun e he => by rw [HRz.out]; exact ⟨av, n, cv, he, zO⟩)
        have v0 := zC.x0; have v1 := zC.x1; have v2 := zC.x2; have v3 := zF.x0; have v4 := zF.x1
        clear zC zF zO zE hWz bR bF bO hO hX hin' hk hsO hin
        go_wp2_with fail
        rw [HWz.out]
        exact bodyPost_ret (v := .tuple #[.agg #[.int .i64 m, .int .i64 bi, .slice av n cv], .agg #[.int .i64 0, .int .i64 0]]) (by simp [results, Tryd.results13, go_sem, v0, v1, v2, v3, v4]) rfl ⟨HAns.out _ rfl, HzE.out⟩
      have q1 : (i : Int) < (n : Int) := by omega
      have q1' : decide ((i : Int) < (n : Int)) = true := dt q1
      have p0 : (0 : Int) ≤ (i : Int) := by omega
      obtain ⟨gg, hg⟩ : ∃ g, ops[i]? = some g := ⟨_, List.getElem?_eq_getElem (by rw [Hl.out]; omega)⟩
      obtain ⟨⟨hbl1, hbl2⟩, hk1, hk6, hkq, hkc⟩ := Hft.out gg (List.mem_of_getElem? hg)
      obtain ⟨hl2, g, cur, eav, hbg, hrw, hnc, hcm, hsz, hsep, hrow⟩ := opsN_open hO (by omega)
      subst eav
      obtain ⟨a1, m1, c1, a2, m2, c2, x0, x1, x2, x3, x4, x5, x6⟩ := hrow i gg (by rw [mapF_get (by rw [Hl.out]; omega), if_neg (by omega)]; exact hg)
      have ce : ∀ (k : Nat) (v : Value), cur[k]? = some v → wr.cell? ⟨g, k, none⟩ = some v := fun k v e => by rw [cell_of_row wr g k cur _ (0, 0) hrw]; exact e
      have t0 := ce _ _ x0; have t1 := ce _ _ x1; have t2 := ce _ _ x2; have t3 := ce _ _ x3; have t4 := ce _ _ x4; have t5 := ce _ _ x5
      have gOb : g < Ob := (HOlt.out g rfl).2
      have hn1' : m1 ≤ 1000 := by rw [← x6.opO.l.i1.1]; exact hbl1
      obtain ⟨U, hU⟩ : ∃ U, wr.alloc (.cells #[.int .i64 gg.kind, .int .i64 gg.k, .slice a1 m1 c1, .int .i64 gg.q, .int .i64 gg.bit, .slice a2 m2 c2] 43) = U := ⟨_, rfl⟩
      obtain ⟨Bx, hBx⟩ : ∃ x, wr.heap.size = x := ⟨_, rfl⟩
      have hEU : Ext wr U := by rw [← hU]; exact ext_al _ _
      have bx : OpBx U Bx gg.kind gg.k a1 m1 c1 gg.q gg.bit a2 m2 c2 := by rw [← hU, ← hBx]; exact opbx_new wr _ _ a1 m1 c1 _ _ a2 m2 c2
      have hqe := Hlen.out
      have HCt := Lib.hid (fun wx (hx : Ext U wx) => move_any gg a1 m1 c1 a2 m2 c2 base tl ta tn tc wx w ((x6.i1.ext hEU).ext hx) Hto.out (((hX.trans hEU)).trans hx) HwBs.out htc htm hn1' hk1 hk6 (by rw [hqe]; exact hkq) (by rw [hqe]; exact hkc) (HSh.out.ext ((hX.trans hEU).trans hx)))
      have Hrw := Lib.hid (show U.heap[g]? = some (.cells cur 43 (0, 0)) from (hEU.block g (Array.getElem?_eq_some_iff.1 hrw).1).trans hrw)
      have Hrow := Lib.hid hrow; have Hsep := Lib.hid hsep; have Hx6 := Lib.hid x6; have HEU := Lib.hid hEU
      have Hx2 := Lib.hid x2; have Hx5 := Lib.hid x5
      have HbR := Lib.hid (bR.ext hEU); have HbF := Lib.hid (bF.ext hEU); have HbO' := Lib.hid (bO.ext hEU); have HXU := Lib.hid (hX.trans hEU); have Hbx := Lib.hid bx
      have HU := Lib.hid hU; have Hg := Lib.hid hg; have Hsz := Lib.hid hsz; have Hk := Lib.hid hk; have HBx := Lib.hid hBx
      have Hnc := Lib.hid hnc; have Hcm := Lib.hid hcm; have Hbg := Lib.hid hbg
      have HsU := Lib.hid (show wr.heap.size < U.heap.size by rw [← hU]; simp)
      have v2 := (bO.ext hEU).x2
      have Hmv := Lib.hid (show movO tl gg = ⟨gg.kind, gg.k, (movO tl gg).ctl, (movO tl gg).q, gg.bit, gg.cnd⟩ from rfl)
      obtain ⟨kd, kk', ctl, qq, bb, cnd⟩ := gg
      simp only at t0 t1 t3 t4 HCt bx HU Hmv
      obtain ⟨ctl', hctl'⟩ : ∃ y, (movO tl ⟨kd, kk', ctl, qq, bb, cnd⟩).ctl = y := ⟨_, rfl⟩
      obtain ⟨q', hq'⟩ : ∃ y, (movO tl ⟨kd, kk', ctl, qq, bb, cnd⟩).q = y := ⟨_, rfl⟩
      rw [hctl', hq'] at HCt Hmv
      have e0 := bx.x0; have e1 := bx.x1; have e2 := bx.x2; have e3 := bx.x3; have e4 := bx.x4; have e5 := bx.x5
      have nOx : Ob ≠ Bx := by omega
      have sO := Lib.hid hsO
      clear hU hEU bx ce hrow hrw x0 x1 x2 x3 x4 x5 x6 hbl1 hbl2 hg bR bF bO hO hX hl2 hnc hcm hsz hbg hsep hn1' hk hctl' hq' hk1 hk6 hkq hkc hqe
      go_upto_region 19 with fail
      rw [HU.out]
      clear t0 t1 t2 t3 t4 t5
      have hE0d : Ext U U.drew := Below.drew (Ext.refl _)
      refine wp_region_K 7 (fun w' => w'.cell? ⟨Ob, 2, none⟩ = some (.slice (some ⟨g, 0, none⟩) n cv) ∧ w'.cell? ⟨Bx, 0, none⟩ = some (.int .i64 kd) ∧ w'.cell? ⟨Bx, 1, none⟩ = some (.int .i64 kk') ∧ w'.cell? ⟨Bx, 2, none⟩ = some (.slice a1 m1 c1) ∧ w'.cell? ⟨Bx, 3, none⟩ = some (.int .i64 qq) ∧ w'.cell? ⟨Bx, 4, none⟩ = some (.int .i64 bb) ∧ w'.cell? ⟨Bx, 5, none⟩ = some (.slice a2 m2 c2)) (by kernel_rfl) ?_
      show anyK _ _ _ _ _ _ 8 #[false, false, false, false, false, false, false, false] _ _
      have hHeld : U.drew.cell? ⟨Ob, 2, none⟩ = some (.slice (some ⟨g, 0, none⟩) n cv) ∧ U.drew.cell? ⟨Bx, 0, none⟩ = some (.int .i64 kd) ∧ U.drew.cell? ⟨Bx, 1, none⟩ = some (.int .i64 kk') ∧ U.drew.cell? ⟨Bx, 2, none⟩ = some (.slice a1 m1 c1) ∧ U.drew.cell? ⟨Bx, 3, none⟩ = some (.int .i64 qq) ∧ U.drew.cell? ⟨Bx, 4, none⟩ = some (.int .i64 bb) ∧ U.drew.cell? ⟨Bx, 5, none⟩ = some (.slice a2 m2 c2) := ⟨cell_ext v2 hE0d, cell_ext e0 hE0d, cell_ext e1 hE0d, cell_ext e2 hE0d, cell_ext e3 hE0d, cell_ext e4 hE0d, cell_ext e5 hE0d⟩
      refine anyK_take (i := 0) (v := ?_) rfl (by kernel_rfl) (by kernel_rfl) (by kernel_rfl) (N := 8) (by kernel_rfl) (by kernel_rfl) (by kernel_rfl) (fun _ _ _ h => h) (Or.inl ⟨by rfl, ?_⟩) hHeld ?_
      rotate_left 1
      · intro w hSw
        go_simp
        try with_reducible rfl
      show anyK _ _ _ _ _ _ _ _ (Act.put _ (some 71) _) _
      simp only [Act.put, List.setIfInBounds_toArray, List.set_cons_zero, List.set_cons_succ]
      refine anyK_take (i := 1) (v := ?_) rfl (by kernel_rfl) (by kernel_rfl) (by kernel_rfl) (N := 8) (by kernel_rfl) (by kernel_rfl) (by kernel_rfl) (fun _ _ _ h => h) (Or.inl ⟨by rfl, ?_⟩) hHeld ?_
      rotate_left 1
      · intro w hSw
        go_simp
        try with_reducible rfl
      show anyK _ _ _ _ _ _ _ _ (Act.put _ (some 72) _) _
      simp only [Act.put, List.setIfInBounds_toArray, List.set_cons_zero, List.set_cons_succ]
      refine anyK_take (i := 2) (v := ?_) rfl (by kernel_rfl) (by kernel_rfl) (by kernel_rfl) (N := 8) (by kernel_rfl) (by kernel_rfl) (by kernel_rfl) (fun _ _ _ h => h) (Or.inl ⟨by rfl, ?_⟩) hHeld ?_
      rotate_left 1
      · intro w hSw
        go_simp
        try with_reducible rfl
      show anyK _ _ _ _ _ _ _ _ (Act.put _ (some 73) _) _
      simp only [Act.put, List.setIfInBounds_toArray, List.set_cons_zero, List.set_cons_succ]
      refine anyK_take (i := 3) (v := ?_) rfl (by kernel_rfl) (by kernel_rfl) (by kernel_rfl) (N := 8) (by kernel_rfl) (by kernel_rfl) (by kernel_rfl) (fun _ _ _ h => h) (Or.inl ⟨by rfl, ?_⟩) hHeld ?_
      rotate_left 1
      · intro w hSw
        go_simp
        try with_reducible rfl
      show anyK _ _ _ _ _ _ _ _ (Act.put _ (some 74) _) _
      simp only [Act.put, List.setIfInBounds_toArray, List.set_cons_zero, List.set_cons_succ]
      refine anyK_take (i := 4) (v := ?_) rfl (by kernel_rfl) (by kernel_rfl) (by kernel_rfl) (N := 8) (by kernel_rfl) (by kernel_rfl) (by kernel_rfl) (fun _ _ _ h => h) (Or.inl ⟨by rfl, ?_⟩) hHeld ?_
      rotate_left 1
      · intro w hSw
        go_simp
        try with_reducible rfl
      show anyK _ _ _ _ _ _ _ _ (Act.put _ (some 75) _) _
      simp only [Act.put, List.setIfInBounds_toArray, List.set_cons_zero, List.set_cons_succ]
      clear hHeld
      refine anyK_one (i := 5) (by kernel_rfl) rfl (fun Kk hKk => ?_)
      go_simp
      (go_at_call 39; refine (HCt.out _ hE0d).mono ?_; rintro e w4 ⟨rfl, hI4, hgr⟩)
      have hkI : ∀ k, (Value.slice a1 m1 c1).ownBlock = some k → ∃ cs fr, U.drew.heap[k]? = some (.cells cs 3 fr) := ((Hx6.out.i1.ext HEU.out).ext hE0d).kind
      have b4 := OpBx_grownI hgr hkI (Hbx.out.ext hE0d); have o4 := CiB_grownI hgr hkI (HbO'.out.ext hE0d)
      go_wp2_with fail
      refine hKk.out _ _ (fun _ => ⟨o4.x2, b4.x0, b4.x1, b4.x2, b4.x3, b4.x4, b4.x5⟩) ?_
      clear hKk Kk
      simp only [List.setIfInBounds_toArray, List.set_cons_zero, List.set_cons_succ]
      have hHeld : w4.cell? ⟨Ob, 2, none⟩ = some (.slice (some ⟨g, 0, none⟩) n cv) ∧ w4.cell? ⟨Bx, 0, none⟩ = some (.int .i64 kd) ∧ w4.cell? ⟨Bx, 1, none⟩ = some (.int .i64 kk') ∧ w4.cell? ⟨Bx, 2, none⟩ = some (.slice a1 m1 c1) ∧ w4.cell? ⟨Bx, 3, none⟩ = some (.int .i64 qq) ∧ w4.cell? ⟨Bx, 4, none⟩ = some (.int .i64 bb) ∧ w4.cell? ⟨Bx, 5, none⟩ = some (.slice a2 m2 c2) := ⟨o4.x2, b4.x0, b4.x1, b4.x2, b4.x3, b4.x4, b4.x5⟩
      refine anyK_take (i := 6) (v := ?_) rfl (by kernel_rfl) (by kernel_rfl) (by kernel_rfl) (N := 8) (by kernel_rfl) (by kernel_rfl) (by kernel_rfl) (fun _ _ _ h => h) (Or.inl ⟨by rfl, ?_⟩) hHeld ?_
      rotate_left 1
      · intro w hSw
        go_simp
        try with_reducible rfl
      show anyK _ _ _ _ _ _ _ _ (Act.put _ (some 77) _) _
      simp only [Act.put, List.setIfInBounds_toArray, List.set_cons_zero, List.set_cons_succ]
      clear hHeld
      have hrw4 := row_grownI hgr hkI (show U.drew.heap[g]? = some (.cells cur 43 (0, 0)) from Hrw.out)
      have ce4 : ∀ (k : Nat) (v : Value), cur[k]? = some v → w4.cell? ⟨g, k, none⟩ = some v := fun k v e => by rw [cell_of_row w4 g k cur _ (0, 0) hrw4]; exact e
      have hlt6 : ∀ j, j < n * 6 → ∃ v, cur[j]? = some v := fun j hj => ⟨cur[j]'(by rw [Hsz.out]; have := Hnc.out; omega), Array.getElem?_eq_getElem _⟩
      obtain ⟨z0, hz0⟩ := hlt6 (i * 6) (by omega)
      obtain ⟨z1, hz1⟩ := hlt6 (i * 6 + 1) (by omega)
      obtain ⟨z2, hz2⟩ := hlt6 (i * 6 + 2) (by omega)
      obtain ⟨z3, hz3⟩ := hlt6 (i * 6 + 3) (by omega)
      obtain ⟨z4, hz4⟩ := hlt6 (i * 6 + 4) (by omega)
      obtain ⟨z5, hz5⟩ := hlt6 (i * 6 + 5) (by omega)
      refine anyK_one (i := 7) (by kernel_rfl) rfl (fun Kk hKk => ?_)
      refine stepK_storeO rfl rfl _ _ rfl g (i * 6) kd kk' a1 m1 c1 q' bb a2 m2 c2 z0 z1 z2 z3 z4 z5 rfl rfl (ce4 _ _ hz0) (ce4 _ _ hz1) (ce4 _ _ hz2) (ce4 _ _ hz3) (ce4 _ _ hz4) (ce4 _ _ hz5) (fun k => frozen_of_row w4 g k _ _ hrw4) ?_
      refine hKk.out _ _ (fun h => Bool.noConfusion (show true = false from h)) ?_
      clear hKk Kk
      simp only [List.setIfInBounds_toArray, List.set_cons_zero, List.set_cons_succ]
      refine anyK_done (by kernel_rfl) ?_ _
      obtain ⟨W8, hW8⟩ : ∃ W8, putAt w4 g (i * 6) (opF ⟨kd, kk', ctl', q', bb, cnd⟩ a1 m1 c1 a2 m2 c2) = W8 := ⟨_, rfl⟩
      have hO8 := putAt_only w4 g (i * 6) (opF ⟨kd, kk', ctl', q', bb, cnd⟩ a1 m1 c1 a2 m2 c2)
      have hr8 := putAt_row (p := i * 6) (opF ⟨kd, kk', ctl', q', bb, cnd⟩ a1 m1 c1 a2 m2 c2) hrw4
      rw [hW8] at hO8 hr8
      have hki := only_ints hrw4 (by decide) hO8
      have hx6U := (Hx6.out.ext HEU.out).ext hE0d
      have hkb : ∀ k, k < U.drew.heap.size → (∃ cs fr, U.drew.heap[k]? = some (.cells cs 3 fr)) → (Value.slice a1 m1 c1).ownBlock ≠ some k → W8.heap[k]? = U.drew.heap[k]? := fun k hk hkd he => by
        obtain ⟨cs, fr, e1⟩ := hkd
        have h2 := hgr.block k hk (fun e => he e.symm)
        exact (hki k cs fr (h2.trans e1)).trans h2
      have hON : OpN W8 base ⟨kd, kk', ctl', q', bb, cnd⟩ a1 m1 c1 a2 m2 c2 := ⟨hI4.keep hki, hx6U.i2.keep1 (fun k hk => hkb k (hx6U.i2.lt k hk).2 (hx6U.i2.kind k hk) (fun e => hx6U.ne k e hk)), Hx6.out.ne⟩
      have hrowU : RowF U.drew base (fun p => cur[p]?) (mapF (movO tl) ops i) := Hrow.out.map (fun _ _ _ _ _ _ _ o => (o.ext HEU.out).ext hE0d)
      have hrow8 := rowF_set (w' := W8) Hl.out (by omega) (by rw [Hsz.out]; have := Hnc.out; omega) hrowU Hg.out Hmv.out (fun t x b1 k1 d1 b2 k2 d2 hti htn y2 y5 o => ⟨o.i1.keep1 (fun k hk => hkb k (o.i1.lt k hk).2 (o.i1.kind k hk) (fun e => by
          have := Hsep.out (t * 6 + 2) (i * 6 + 2) k _ _ (by omega) (by omega) y2 Hx2.out hk e; omega)), o.i2.keep1 (fun k hk => hkb k (o.i2.lt k hk).2 (o.i2.kind k hk) (fun e => by
          have := Hsep.out (t * 6 + 5) (i * 6 + 2) k _ _ (by omega) (by omega) y5 Hx2.out hk e; omega)), o.ne⟩) hON
      have hsep8 := sepF_set (g' := ⟨kd, kk', ctl', q', bb, cnd⟩) (b1 := a1) (m1 := m1) (d1 := c1) (b2 := a2) (m2 := m2) (d2 := c2) (show i < n by omega) (by rw [Hsz.out]; have := Hnc.out; omega) Hsep.out (fun k p u hk hp hpi hu he => by
        have h1 := Hsep.out p (i * 6 + 2) k u _ hp (by omega) hu Hx2.out he hk
        omega) (fun k p u hk hp hpi hu he => by
        have h1 := Hsep.out p (i * 6 + 5) k u _ hp (by omega) hu Hx5.out he hk
        omega) Hx6.out.ne
      have Hown8 := Lib.hid (opsN_close (base := base) (n := n) (c := cv) (by rw [mapF_len]; exact Hl.out) Hbg.out hr8 Hnc.out Hcm.out (by rw [set6_size]; exact Hsz.out) hsep8 hrow8)
      have gOb := (HOlt.out g rfl).2
      have gb := Hbb.out
      have gbg := Hbg.out
      have HR8 := Lib.hid ((CiB_grownI hgr hkI (HbR.out.ext hE0d)).kept hO8 (by omega)); have HF8 := Lib.hid ((FtB_grownI hgr hkI (HbF.out.ext hE0d)).kept hO8 (by omega)); have HO8 := Lib.hid (o4.kept hO8 (by omega))
      have HX8 := Lib.hid (ext_only (grown_ext (HXU.out.trans hE0d) hgr (fun k hk => by have h1 := (Hx6.out.i1.lt k hk).1; have h2 := HwBs.out; omega)) hO8 (by omega))
      have Hs8 := Lib.hid (show Ob < W8.heap.size by rw [hO8.size]; have h1 := hgr.size; have h2 := sO.out; have h3 := HsU.out; have h4 : U.drew.heap.size = U.heap.size := rfl; omega)
      have HW8 := Lib.hid (show ((((((w4.setCell ⟨g, i * 6, none⟩ (.int .i64 kd)).setCell ⟨g, i * 6 + 1, none⟩ (.int .i64 kk')).setCell ⟨g, i * 6 + 2, none⟩ (.slice a1 m1 c1)).setCell ⟨g, i * 6 + 3, none⟩ (.int .i64 q')).setCell ⟨g, i * 6 + 4, none⟩ (.int .i64 bb)).setCell ⟨g, i * 6 + 5, none⟩ (.slice a2 m2 c2)) = W8 from hW8)
      clear hW8 hO8 hr8 hki hrowU hrow8 hsep8 hrw4 ce4 hlt6 hz0 hz1 hz2 hz3 hz4 hz5 hON hkb hx6U hgr hI4 hkI b4 o4 hE0d v2 e0 e1 e2 e3 e4 e5 gOb gb gbg
      rw [HW8.out]
      go_wp2_with fail
      go_roundg (n - (i + 1))
      case measure => have := Hk.out; omega
      case rel => exact ⟨i + 1, by go_num, by omega, rfl, HR8.out, HF8.out, HO8.out, Hown8.out, HX8.out, Hs8.out⟩

end Go.Proofs.YtapolidgocfbjaaDoor
