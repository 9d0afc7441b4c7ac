/-
  The reference's Then. The reference's Then, where nothing is wrong. The reference's Inverse and Power of a circuit that is not pure.
-/
import Derived.Test.YtapolidgocfbjaaDoorProg
import Derived.Test.YtapolidgocfbjaaDoorRows
import Derived.BigQuiet
import Derived.Deep.AppendLies
import Derived.Deep.Cut
import Derived.Deep.CutRange
import Derived.Deep.LoopGhost
import Derived.Deep.QuietTactic
import Derived.Deep.RegionHeld3
import Derived.Defers
import Derived.Laws.Bits64b
import Derived.Laws.Concat
import Derived.Laws.CopyOwn
import Derived.Laws.IdiomStrings
import Derived.Laws.ResultCell
import Derived.Lib.AppendStr
import Derived.Lib.BitFns
import Derived.Lib.Hide
import Derived.Lib.ItoaMem
import Derived.Lib.ItoaNum
import Derived.Lib.Strings
import Derived.Maps.AppendAt
import Derived.OwnWalk
import Derived.Recover
import Derived.Shelf.LaysM
import Derived.Shelf.Strconv.Itoa0
import Derived.Shelf.Strconv.Itoa1
import Derived.Shelf.Strconv.Itoa2
import Derived.Shelf.Strconv.Itoa3
import Derived.Shelf.Strings.Builder1
import Derived.Shelf.Strings.BuilderF
import Derived.Shelf.Strings.BuilderK
import Derived.WalkKit
import Derived.WalkLawsBesides
import Derived.WalkSpells
import Derived.Test.YtapolidgocfbjaaDoorS00Ce
import Derived.Test.YtapolidgocfbjaaDoorS01Cj
import Derived.Test.YtapolidgocfbjaaDoorShelf
import Derived.Test.YtapolidgocfbjaaDoorS03Cq
import Derived.Test.YtapolidgocfbjaaDoorS04Jc
import Derived.Test.YtapolidgocfbjaaDoorS05Gb
import Derived.Test.YtapolidgocfbjaaDoorS06Ke
namespace Go.Proofs.YtapolidgocfbjaaDoor
open Go.RowKit

/-- The fault of one circuit behind another. -/
def thnF (a b : Gci) : Int × Int :=
  if (chk a).1 ≠ 0 then chk a else if (chk b).1 ≠ 0 then chk b
  else if a.qubits ≠ b.qubits ∨ a.bits ≠ b.bits then (16, 0)
  else if 4096 < a.ops.length + b.ops.length then (2, 0) else (0, 0)

theorem nt' {a b : Int} (h : a ≠ b) : (a != b) = true := by simp [h]
theorem bf' {a b : Int} (h : a ≠ b) : (a == b) = false := by simp [h]
theorem ne_f {a b : Int} (h : a = b) : (a != b) = false := by simp [h]
theorem eq_t {a b : Int} (h : a = b) : (a == b) = true := by simp [h]
theorem thnF_zero {a b : Gci} (h : (thnF a b).1 = 0) : (chk a).1 = 0 ∧ (chk b).1 = 0 ∧ a.qubits = b.qubits ∧ a.bits = b.bits ∧ a.ops.length + b.ops.length ≤ 4096 := by
  unfold thnF at h
  by_cases h1 : (chk a).1 ≠ 0
  · rw [if_pos h1] at h; exact absurd h h1
  rw [if_neg h1] at h
  by_cases h2 : (chk b).1 ≠ 0
  · rw [if_pos h2] at h; exact absurd h h2
  rw [if_neg h2] at h
  by_cases h3 : a.qubits ≠ b.qubits ∨ a.bits ≠ b.bits
  · rw [if_pos h3] at h; exact absurd h (by decide)
  rw [if_neg h3] at h
  by_cases h4 : 4096 < a.ops.length + b.ops.length
  · rw [if_pos h4] at h; exact absurd h (by decide)
  omega
/-- A circuit and a fault are laid into two variables: a row of operations stands. -/
theorem putCF_opsN {W : World} {R F base : Nat} {v : Value} {ops : List Gop} {x y p q : Int} {a0 : Option Addr} {n0 c0 : Nat} (h : OpsN W base v ops) (hR : CiB W R x y a0 n0 c0) (hF : FtB W F p q) (hne : R ≠ F) (qb bi : Int) (ao : Option Addr) (n cp : Nat) (u w : Int) : OpsN (putCF W R F qb bi ao n cp u w) base v ops := by
  have hP1 : Only R W (((W.setCell ⟨R, 0, none⟩ (.int .i64 qb)).setCell ⟨R, 1, none⟩ (.int .i64 bi)).setCell ⟨R, 2, none⟩ (.slice ao n cp)) := (((Only.refl _ _).setCell _ _).setCell _ _).setCell _ _
  exact (h.far hR.row (by decide) (by decide) hP1).far (hF.kept hP1 (fun e => hne e.symm)).row (by decide) (by decide) (only2 _ F _ _)

set_option maxHeartbeats 8000000 in
set_option maxRecDepth 100000 in
theorem RThen_no (a b : Gci) (ao : Option Addr) (n cp : Nat) (bo : Option Addr) (m cq : Nat) (w : World) (hA : OpsAt w ao n a.ops) (hB : OpsAt w bo m b.ops) (hn : n ≤ cp) (hcp : cp ≤ 9223372036854775807) (hm : m ≤ cq) (hcq : cq ≤ 9223372036854775807) (hc : (thnF a b).1 ≠ 0) :
    Calls Tryd.prog 20 #[.agg #[.int .i64 a.qubits, .int .i64 a.bits, .slice ao n cp], .agg #[.int .i64 b.qubits, .int .i64 b.bits, .slice bo m cq]] w fun e w' => e = .returned (.tuple #[.agg #[.int .i64 0, .int .i64 0, .slice none 0 0], .agg #[.int .i64 (thnF a b).1, .int .i64 (thnF a b).2]]) ∧ Ext w w' := by
  obtain ⟨qa, ba, opsA⟩ := a
  obtain ⟨qb, bb, opsB⟩ := b
  simp only at hA hB ⊢
  have hlA : opsA.length = n := hA.1
  have hlB : opsB.length = m := hB.1
  obtain ⟨H, hH⟩ : ∃ H, w.heap.size = H := ⟨_, rfl⟩
  obtain ⟨A1, hA1⟩ : ∃ A1, w.alloc (.cells #[.int .i64 qa, .int .i64 ba, .slice ao n cp] 24) = A1 := ⟨_, rfl⟩
  obtain ⟨A2, hA2⟩ : ∃ A2, A1.alloc (.cells #[.int .i64 qb, .int .i64 bb, .slice bo m cq] 24) = A2 := ⟨_, rfl⟩
  obtain ⟨A3, hA3⟩ : ∃ A3, A2.alloc (.cells #[.int .i64 0, .int .i64 0, .slice none 0 0] 24) = A3 := ⟨_, rfl⟩
  obtain ⟨A4, hA4⟩ : ∃ A4, A3.alloc (.cells #[.int .i64 0, .int .i64 0] 28) = A4 := ⟨_, rfl⟩
  have s1 : A1.heap.size = H + 1 := by rw [← hA1, ← hH]; simp
  have s2 : A2.heap.size = H + 2 := by rw [← hA2]; simp; omega
  have s3 : A3.heap.size = H + 3 := by rw [← hA3]; simp; omega
  have s4 : A4.heap.size = H + 4 := by rw [← hA4]; simp; omega
  have x1 : Ext w A1 := by rw [← hA1]; exact ext_al _ _
  have x2 : Ext A1 A2 := by rw [← hA2]; exact ext_al _ _
  have x3 : Ext A2 A3 := by rw [← hA3]; exact ext_al _ _
  have x4 : Ext A3 A4 := by rw [← hA4]; exact ext_al _ _
  have bA : CiB A4 H qa ba ao n cp := by
    have : CiB A1 H qa ba ao n cp := by rw [← hA1, ← hH]; exact ⟨heap_alloc_new w _⟩
    exact ((this.ext x2).ext x3).ext x4
  have bB : CiB A4 (H + 1) qb bb bo m cq := by
    have : CiB A2 (H + 1) qb bb bo m cq := by rw [← hA2, ← s1]; exact ⟨heap_alloc_new A1 _⟩
    exact (this.ext x3).ext x4
  have bR : CiB A4 (H + 2) 0 0 none 0 0 := by
    have : CiB A3 (H + 2) 0 0 none 0 0 := by rw [← hA3, ← s2]; exact ⟨heap_alloc_new A2 _⟩
    exact this.ext x4
  have bF : FtB A4 (H + 3) 0 0 := by rw [← hA4, ← s3]; exact ⟨heap_alloc_new A3 _⟩
  have E0 : Ext w A4 := ((x1.trans x2).trans x3).trans x4
  have hAA : (((w.alloc (.cells #[.int .i64 qa, .int .i64 ba, .slice ao n cp] 24)).alloc (.cells #[.int .i64 qb, .int .i64 bb, .slice bo m cq] 24)).alloc (.cells #[.int .i64 0, .int .i64 0, .slice none 0 0] 24)).alloc (.cells #[.int .i64 0, .int .i64 0] 28) = A4 := by rw [hA1, hA2, hA3, hA4]
  have m0 := bA.x0; have m1 := bA.x1; have m2 := bA.x2
  rw [← hAA] at m0 m1 m2
  have HAA := Lib.hid hAA; have HE0 := Lib.hid E0; have HbA0 := Lib.hid bA; have HbB0 := Lib.hid bB; have HbR0 := Lib.hid bR; have HbF0 := Lib.hid bF; have Hs4 := Lib.hid s4; have HhH := Lib.hid hH
  have HKa := Lib.hid (RCheck_any ⟨qa, ba, opsA⟩ ao n cp A4 (hA.ext E0) hn hcp)
  have HKb := Lib.hid (fun wx (hx : Ext w wx) => RCheck_any ⟨qb, bb, opsB⟩ bo m cq wx (hB.ext hx) hm hcq)
  simp only at HKa HKb
  have HlA := Lib.hid hlA; have HlB := Lib.hid hlB; have HopA := Lib.hid hA; have HopB := Lib.hid hB
  obtain ⟨T, hT⟩ : ∃ T, thnF ⟨qa, ba, opsA⟩ ⟨qb, bb, opsB⟩ = T := ⟨_, rfl⟩
  obtain ⟨t0, t1⟩ := T
  rw [hT] at hc ⊢
  simp only at hc ⊢
  unfold thnF at hT
  simp only at hT
  rw [hlA, hlB] at hT
  obtain ⟨FA, hFA⟩ : ∃ F, chk ⟨qa, ba, opsA⟩ = F := ⟨_, rfl⟩
  obtain ⟨FB, hFB⟩ : ∃ F, chk ⟨qb, bb, opsB⟩ = F := ⟨_, rfl⟩
  have hzA : FA.1 = 0 → FA = (0, 0) := fun h => by rw [← hFA] at h ⊢; exact (chk_zero h).1
  have hzB : FB.1 = 0 → FB = (0, 0) := fun h => by rw [← hFB] at h ⊢; exact (chk_zero h).1
  have hbnd : FA.1 = 0 → n ≤ 4096 := fun h => by rw [← hFA] at h; have := (chk_zero h).2.2.2.2.2.1; simp only at this; omega
  have hbndB : FB.1 = 0 → m ≤ 4096 := fun h => by rw [← hFB] at h; have := (chk_zero h).2.2.2.2.2.1; simp only at this; omega
  rw [hFA] at HKa hT
  rw [hFB] at HKb hT
  obtain ⟨ua, va⟩ := FA
  obtain ⟨ub, vb⟩ := FB
  simp only at hT HKa HKb hzA hzB hbnd hbndB
  have HT := Lib.hid hT; have HzA := Lib.hid hzA; have HzB := Lib.hid hzB; have Hbnd := Lib.hid hbnd; have HbndB := Lib.hid hbndB
  clear hT hFA hFB hzA hzB hbnd hbndB
  clear hA hB E0 bA bB bR bF x1 x2 x3 x4 s1 s2 s3 s4 hA1 hA2 hA3 hA4 hAA hlA hlB
  go_enter Tryd.func20, Tryd.ntmps20
  go_wp2_with fail
  rw [HAA.out]
  refine HKa.out.mono ?_
  rintro e w1 ⟨rfl, hx1⟩
  have hlo : H + 4 ≤ w1.heap.size := by rw [← Hs4.out]; exact hx1.size
  have Hlo := Lib.hid hlo
  clear m0 m1 m2 HKa hlo
  by_cases hua : ua = 0
  rotate_left 1
  · have hTe := HT.out
    rw [if_pos hua] at hTe
    injection hTe with e1 e2
    subst e1; subst e2
    have nu := nt hua; have nb := bf hua
    have Ef := ext_al w1 (.cells #[.int .i64 ua, .int .i64 va] 28)
    have hX := hx1.trans Ef
    have bf1 : FtB (w1.alloc (.cells #[.int .i64 ua, .int .i64 va] 28)) w1.heap.size ua va := ⟨heap_alloc_new w1 _⟩
    have q0 := bf1.x0
    have HbA := Lib.hid (HbA0.out.ext hX); have HbB := Lib.hid (HbB0.out.ext hX); have HbR := Lib.hid (HbR0.out.ext hX); have HbF := Lib.hid (HbF0.out.ext hX); have Hbf := Lib.hid bf1; have HbE := Lib.hid (HE0.out.trans hX)
    have j0 := HbB.out.x0; have j1 := HbB.out.x1; have j2 := HbB.out.x2
    clear Ef hX bf1 hx1 HbA0 HbB0 HbR0 HbF0 HE0
    go_upto_region 2 with fail
    generalize w1.alloc (.cells #[.int .i64 ua, .int .i64 va] 28) = W1 at *
    obtain ⟨Fb, hFb⟩ : ∃ y, w1.heap.size = y := ⟨_, rfl⟩
    rw [hFb] at Hbf Hlo q0 ⊢
    have nF2 : Fb ≠ H + 2 := by have := Hlo.out; omega
    have nF3 : Fb ≠ H + 3 := by have := Hlo.out; omega
    clear hFb
    clear q0 j0 j1 j2
    have r0 := HbR.out.x0; have r1 := HbR.out.x1; have r2 := HbR.out.x2; have g0 := HbR.out.f 0; have g1 := HbR.out.f 1; have g2 := HbR.out.f 2
    have f0 := HbF.out.x0; have f1 := HbF.out.x1; have k0 := HbF.out.f 0; have k1 := HbF.out.f 1
    have d0 := Hbf.out.x0; have d1 := Hbf.out.x1
    have zC := (putCF_C HbR.out (show H + 2 ≠ H + 3 by omega) 0 0 none 0 0 ua va).drew
    have zF := (putCF_F HbF.out (show H + 2 ≠ H + 3 by omega) 0 0 none 0 0 ua va).drew
    have zE : Ext w (putCF W1 (H + 2) (H + 3) 0 0 none 0 0 ua va).drew := Below.drew (putCF_ext HbE.out (show w.heap.size ≤ H + 2 by omega) (show w.heap.size ≤ H + 3 by omega) _ _ _ _ _ _ _)
    obtain ⟨Wz, hWz⟩ : ∃ Wz, putCF W1 (H + 2) (H + 3) 0 0 none 0 0 ua va = Wz := ⟨_, rfl⟩
    rw [hWz] at zC zF zE
    unfold putCF at hWz
    have HWz := Lib.hid hWz; have HzE := Lib.hid zE
    have v0 := zC.x0; have v1 := zC.x1; have v2 := zC.x2; have v3 := zF.x0; have v4 := zF.x1
    clear zC zF zE hWz
    go_upto_region 9 with fail
    go_region
    go_wp2_with fail
    rw [HWz.out]
    exact bodyPost_ret (v := .tuple #[.agg #[.int .i64 0, .int .i64 0, .slice none 0 0], .agg #[.int .i64 ua, .int .i64 va]]) (by simp [results, Tryd.results20, go_sem, v0, v1, v2, v3, v4]) rfl ⟨rfl, HzE.out⟩
  have hva := HzA.out hua
  injection hva with e1 e2
  subst e1; subst e2
  have Ef := ext_al w1 (.cells #[.int .i64 0, .int .i64 0] 28)
  have hX := hx1.trans Ef
  have bf1 : FtB (w1.alloc (.cells #[.int .i64 0, .int .i64 0] 28)) w1.heap.size 0 0 := ⟨heap_alloc_new w1 _⟩
  have q0 := bf1.x0
  have HbA := Lib.hid (HbA0.out.ext hX); have HbB := Lib.hid (HbB0.out.ext hX); have HbR := Lib.hid (HbR0.out.ext hX); have HbF := Lib.hid (HbF0.out.ext hX); have Hbf := Lib.hid bf1; have HbE := Lib.hid (HE0.out.trans hX)
  have j0 := HbB.out.x0; have j1 := HbB.out.x1; have j2 := HbB.out.x2
  clear Ef hX bf1 hx1 HbA0 HbB0 HbR0 HbF0 HE0
  go_upto_region 2 with fail
  generalize w1.alloc (.cells #[.int .i64 0, .int .i64 0] 28) = W1 at *
  obtain ⟨Fb, hFb⟩ : ∃ y, w1.heap.size = y := ⟨_, rfl⟩
  rw [hFb] at Hbf Hlo q0 ⊢
  have nF2 : Fb ≠ H + 2 := by have := Hlo.out; omega
  have nF3 : Fb ≠ H + 3 := by have := Hlo.out; omega
  clear hFb
  go_wp2_with fail
  refine (HKb.out W1 HbE.out).mono ?_
  rintro e w2 ⟨rfl, hx2⟩
  have hf2 := Hbf.out.ext hx2
  have p0 := hf2.x0; have p1 := hf2.x1; have p2 := hf2.f 0; have p3 := hf2.f 1
  have hOn := only2 w2 Fb (.int .i64 ub) (.int .i64 vb)
  have Hbf2 := Lib.hid (hf2.put ub vb)
  have nFA : H ≠ Fb := by have := Hlo.out; omega
  have nFB : H + 1 ≠ Fb := by have := Hlo.out; omega
  have HbA2 := Lib.hid ((HbA.out.ext hx2).kept hOn nFA); have HbB2 := Lib.hid ((HbB.out.ext hx2).kept hOn nFB); have HbR2 := Lib.hid ((HbR.out.ext hx2).kept hOn nF2.symm); have HbF2 := Lib.hid ((HbF.out.ext hx2).kept hOn nF3.symm)
  have HbE2 := Lib.hid (ext_only (HbE.out.trans hx2) hOn (by have := Hlo.out; omega))
  clear hx2 hf2 hOn HKb HbA HbB HbR HbF Hbf HbE q0 j0 j1 j2 nFA nFB
  go_upto_region 4 with fail
  generalize (w2.setCell ⟨Fb, 0, none⟩ (.int .i64 ub)).setCell ⟨Fb, 1, none⟩ (.int .i64 vb) = W2 at *
  clear p0 p1 p2 p3
  have hTe := HT.out
  rw [if_neg (by simp)] at hTe
  by_cases hub : ub = 0
  rotate_left 1
  · rw [if_pos hub] at hTe
    injection hTe with e1 e2
    subst e1; subst e2
    have nu := nt hub; have nb := bf hub
    have HbR := HbR2; have HbF := HbF2; have Hbf := Hbf2; have HbE := HbE2
    clear HbA2 HbB2 HbR2 HbF2 Hbf2 HbE2
    have r0 := HbR.out.x0; have r1 := HbR.out.x1; have r2 := HbR.out.x2; have g0 := HbR.out.f 0; have g1 := HbR.out.f 1; have g2 := HbR.out.f 2
    have f0 := HbF.out.x0; have f1 := HbF.out.x1; have k0 := HbF.out.f 0; have k1 := HbF.out.f 1
    have d0 := Hbf.out.x0; have d1 := Hbf.out.x1
    have zC := (putCF_C HbR.out (show H + 2 ≠ H + 3 by omega) 0 0 none 0 0 ub vb).drew
    have zF := (putCF_F HbF.out (show H + 2 ≠ H + 3 by omega) 0 0 none 0 0 ub vb).drew
    have zE : Ext w (putCF W2 (H + 2) (H + 3) 0 0 none 0 0 ub vb).drew := Below.drew (putCF_ext HbE.out (show w.heap.size ≤ H + 2 by omega) (show w.heap.size ≤ H + 3 by omega) _ _ _ _ _ _ _)
    obtain ⟨Wz, hWz⟩ : ∃ Wz, putCF W2 (H + 2) (H + 3) 0 0 none 0 0 ub vb = Wz := ⟨_, rfl⟩
    rw [hWz] at zC zF zE
    unfold putCF at hWz
    have HWz := Lib.hid hWz; have HzE := Lib.hid zE
    have v0 := zC.x0; have v1 := zC.x1; have v2 := zC.x2; have v3 := zF.x0; have v4 := zF.x1
    clear zC zF zE hWz
    go_upto_region 9 with fail
    go_region
    go_wp2_with fail
    rw [HWz.out]
    exact bodyPost_ret (v := .tuple #[.agg #[.int .i64 0, .int .i64 0, .slice none 0 0], .agg #[.int .i64 ub, .int .i64 vb]]) (by simp [results, Tryd.results20, go_sem, v0, v1, v2, v3, v4]) rfl ⟨rfl, HzE.out⟩
  have hvb := HzB.out hub
  injection hvb with e1 e2
  subst e1; subst e2
  rw [if_neg (by simp)] at hTe
  have q0 := Hbf2.out.x0
  have j0 := HbB2.out.x0; have j1 := HbB2.out.x1; have j2 := HbB2.out.x2; have l0 := HbA2.out.x0; have l1 := HbA2.out.x1; have l2 := HbA2.out.x2
  by_cases hq : qa = qb
  rotate_left 1
  · have hq1 := nt' hq; have hq2 := bf' hq
    rw [if_pos (Or.inl hq)] at hTe
    injection hTe with e1 e2
    subst e1; subst e2
    clear hq
    go_wp2_with fail
    refine (rfault_any 16 0 W2).mono ?_
    rintro e w3 ⟨rfl, hx3⟩
    have hf3 := Hbf2.out.ext hx3
    have p0 := hf3.x0; have p1 := hf3.x1; have p2 := hf3.f 0; have p3 := hf3.f 1
    have hOn := only2 w3 Fb (.int .i64 16) (.int .i64 0)
    have Hbf := Lib.hid (hf3.put 16 0)
    have HbR := Lib.hid ((HbR2.out.ext hx3).kept hOn nF2.symm); have HbF := Lib.hid ((HbF2.out.ext hx3).kept hOn nF3.symm)
    have HbE := Lib.hid (ext_only (HbE2.out.trans hx3) hOn (by have := Hlo.out; omega))
    clear hx3 hf3 hOn HbA2 HbB2 HbR2 HbF2 Hbf2 HbE2 q0 j0 j1 j2 l0 l1 l2
    go_upto_region 6 with fail
    generalize (w3.setCell ⟨Fb, 0, none⟩ (.int .i64 16)).setCell ⟨Fb, 1, none⟩ (.int .i64 0) = W3 at *
    clear p0 p1 p2 p3
    have r0 := HbR.out.x0; have r1 := HbR.out.x1; have r2 := HbR.out.x2; have g0 := HbR.out.f 0; have g1 := HbR.out.f 1; have g2 := HbR.out.f 2
    have f0 := HbF.out.x0; have f1 := HbF.out.x1; have k0 := HbF.out.f 0; have k1 := HbF.out.f 1
    have d0 := Hbf.out.x0; have d1 := Hbf.out.x1
    have zC := (putCF_C HbR.out (show H + 2 ≠ H + 3 by omega) 0 0 none 0 0 16 0).drew
    have zF := (putCF_F HbF.out (show H + 2 ≠ H + 3 by omega) 0 0 none 0 0 16 0).drew
    have zE : Ext w (putCF W3 (H + 2) (H + 3) 0 0 none 0 0 16 0).drew := Below.drew (putCF_ext HbE.out (show w.heap.size ≤ H + 2 by omega) (show w.heap.size ≤ H + 3 by omega) _ _ _ _ _ _ _)
    obtain ⟨Wz, hWz⟩ : ∃ Wz, putCF W3 (H + 2) (H + 3) 0 0 none 0 0 16 0 = Wz := ⟨_, rfl⟩
    rw [hWz] at zC zF zE
    unfold putCF at hWz
    have HWz := Lib.hid hWz; have HzE := Lib.hid zE
    have v0 := zC.x0; have v1 := zC.x1; have v2 := zC.x2; have v3 := zF.x0; have v4 := zF.x1
    clear zC zF zE hWz
    go_upto_region 9 with fail
    go_region
    go_wp2_with fail
    rw [HWz.out]
    exact bodyPost_ret (v := .tuple #[.agg #[.int .i64 0, .int .i64 0, .slice none 0 0], .agg #[.int .i64 16, .int .i64 0]]) (by simp [results, Tryd.results20, go_sem, v0, v1, v2, v3, v4]) rfl ⟨rfl, HzE.out⟩
  by_cases hb : ba = bb
  rotate_left 1
  · have hb1 := nt' hb; have hb2 := bf' hb
    have hq1 := ne_f hq; have hq2 := eq_t hq
    rw [if_pos (Or.inr hb)] at hTe
    injection hTe with e1 e2
    subst e1; subst e2
    clear hb hq
    go_wp2_with fail
    refine (rfault_any 16 0 W2).mono ?_
    rintro e w3 ⟨rfl, hx3⟩
    have hf3 := Hbf2.out.ext hx3
    have p0 := hf3.x0; have p1 := hf3.x1; have p2 := hf3.f 0; have p3 := hf3.f 1
    have hOn := only2 w3 Fb (.int .i64 16) (.int .i64 0)
    have Hbf := Lib.hid (hf3.put 16 0)
    have HbR := Lib.hid ((HbR2.out.ext hx3).kept hOn nF2.symm); have HbF := Lib.hid ((HbF2.out.ext hx3).kept hOn nF3.symm)
    have HbE := Lib.hid (ext_only (HbE2.out.trans hx3) hOn (by have := Hlo.out; omega))
    clear hx3 hf3 hOn HbA2 HbB2 HbR2 HbF2 Hbf2 HbE2 q0 j0 j1 j2 l0 l1 l2
    go_upto_region 6 with fail
    generalize (w3.setCell ⟨Fb, 0, none⟩ (.int .i64 16)).setCell ⟨Fb, 1, none⟩ (.int .i64 0) = W3 at *
    clear p0 p1 p2 p3
    have r0 := HbR.out.x0; have r1 := HbR.out.x1; have r2 := HbR.out.x2; have g0 := HbR.out.f 0; have g1 := HbR.out.f 1; have g2 := HbR.out.f 2
    have f0 := HbF.out.x0; have f1 := HbF.out.x1; have k0 := HbF.out.f 0; have k1 := HbF.out.f 1
    have d0 := Hbf.out.x0; have d1 := Hbf.out.x1
    have zC := (putCF_C HbR.out (show H + 2 ≠ H + 3 by omega) 0 0 none 0 0 16 0).drew
    have zF := (putCF_F HbF.out (show H + 2 ≠ H + 3 by omega) 0 0 none 0 0 16 0).drew
    have zE : Ext w (putCF W3 (H + 2) (H + 3) 0 0 none 0 0 16 0).drew := Below.drew (putCF_ext HbE.out (show w.heap.size ≤ H + 2 by omega) (show w.heap.size ≤ H + 3 by omega) _ _ _ _ _ _ _)
    obtain ⟨Wz, hWz⟩ : ∃ Wz, putCF W3 (H + 2) (H + 3) 0 0 none 0 0 16 0 = Wz := ⟨_, rfl⟩
    rw [hWz] at zC zF zE
    unfold putCF at hWz
    have HWz := Lib.hid hWz; have HzE := Lib.hid zE
    have v0 := zC.x0; have v1 := zC.x1; have v2 := zC.x2; have v3 := zF.x0; have v4 := zF.x1
    clear zC zF zE hWz
    go_upto_region 9 with fail
    go_region
    go_wp2_with fail
    rw [HWz.out]
    exact bodyPost_ret (v := .tuple #[.agg #[.int .i64 0, .int .i64 0, .slice none 0 0], .agg #[.int .i64 16, .int .i64 0]]) (by simp [results, Tryd.results20, go_sem, v0, v1, v2, v3, v4]) rfl ⟨rfl, HzE.out⟩
  rw [if_neg (by simp [hq, hb])] at hTe
  have hb1 := ne_f hb; have hb2 := eq_t hb; have hq1 := ne_f hq; have hq2 := eq_t hq
  clear hq hb
  have hn4 := Hbnd.out (by trivial); have hm4 := HbndB.out (by trivial)
  by_cases hlong : 4096 < n + m
  · rw [if_pos hlong] at hTe
    injection hTe with e1 e2
    subst e1; subst e2
    have wl : IntKind.i64.wrap ((n : Int) + (m : Int)) = ((n + m : Nat) : Int) := by rw [IntKind.wrap_i64]; omega
    have p9 : (4096 : Int) < ((n + m : Nat) : Int) := by omega
    have p9' : decide ((4096 : Int) < ((n + m : Nat) : Int)) = true := dt p9
    obtain ⟨nm, hnm⟩ : ∃ y : Int, ((n + m : Nat) : Int) = y := ⟨_, rfl⟩
    rw [hnm] at wl p9 p9'
    clear hnm hlong
    go_wp2_with fail
    refine (rfault_any 2 0 W2).mono ?_
    rintro e w3 ⟨rfl, hx3⟩
    have hf3 := Hbf2.out.ext hx3
    have p0 := hf3.x0; have p1 := hf3.x1; have p2 := hf3.f 0; have p3 := hf3.f 1
    have hOn := only2 w3 Fb (.int .i64 2) (.int .i64 0)
    have Hbf := Lib.hid (hf3.put 2 0)
    have HbR := Lib.hid ((HbR2.out.ext hx3).kept hOn nF2.symm); have HbF := Lib.hid ((HbF2.out.ext hx3).kept hOn nF3.symm)
    have HbE := Lib.hid (ext_only (HbE2.out.trans hx3) hOn (by have := Hlo.out; omega))
    clear hx3 hf3 hOn HbA2 HbB2 HbR2 HbF2 Hbf2 HbE2 q0 j0 j1 j2 l0 l1 l2
    go_upto_region 8 with fail
    generalize (w3.setCell ⟨Fb, 0, none⟩ (.int .i64 2)).setCell ⟨Fb, 1, none⟩ (.int .i64 0) = W3 at *
    clear p0 p1 p2 p3
    have r0 := HbR.out.x0; have r1 := HbR.out.x1; have r2 := HbR.out.x2; have g0 := HbR.out.f 0; have g1 := HbR.out.f 1; have g2 := HbR.out.f 2
    have f0 := HbF.out.x0; have f1 := HbF.out.x1; have k0 := HbF.out.f 0; have k1 := HbF.out.f 1
    have d0 := Hbf.out.x0; have d1 := Hbf.out.x1
    have zC := (putCF_C HbR.out (show H + 2 ≠ H + 3 by omega) 0 0 none 0 0 2 0).drew
    have zF := (putCF_F HbF.out (show H + 2 ≠ H + 3 by omega) 0 0 none 0 0 2 0).drew
    have zE : Ext w (putCF W3 (H + 2) (H + 3) 0 0 none 0 0 2 0).drew := Below.drew (putCF_ext HbE.out (show w.heap.size ≤ H + 2 by omega) (show w.heap.size ≤ H + 3 by omega) _ _ _ _ _ _ _)
    obtain ⟨Wz, hWz⟩ : ∃ Wz, putCF W3 (H + 2) (H + 3) 0 0 none 0 0 2 0 = Wz := ⟨_, rfl⟩
    rw [hWz] at zC zF zE
    unfold putCF at hWz
    have HWz := Lib.hid hWz; have HzE := Lib.hid zE
    have v0 := zC.x0; have v1 := zC.x1; have v2 := zC.x2; have v3 := zF.x0; have v4 := zF.x1
    clear zC zF zE hWz
    go_upto_region 9 with fail
    go_region
    go_wp2_with fail
    rw [HWz.out]
    exact bodyPost_ret (v := .tuple #[.agg #[.int .i64 0, .int .i64 0, .slice none 0 0], .agg #[.int .i64 2, .int .i64 0]]) (by simp [results, Tryd.results20, go_sem, v0, v1, v2, v3, v4]) rfl ⟨rfl, HzE.out⟩
  · rw [if_neg hlong] at hTe
    injection hTe with e1 _
    omega

end Go.Proofs.YtapolidgocfbjaaDoor
namespace Go.Proofs.YtapolidgocfbjaaDoor
open Go.RowKit

set_option maxHeartbeats 8000000 in
set_option maxRecDepth 100000 in
theorem RThen_yes (a b : Gci) (ao : Option Addr) (n cp : Nat) (bo : Option Addr) (m cq : Nat) (w : World) (hA : OpsAt w ao n a.ops) (hB : OpsAt w bo m b.ops) (hn : n ≤ cp) (hcp : cp ≤ 9223372036854775807) (hm : m ≤ cq) (hcq : cq ≤ 9223372036854775807) (hc : (thnF a b).1 = 0) :
    Calls Tryd.prog 20 #[.agg #[.int .i64 a.qubits, .int .i64 a.bits, .slice ao n cp], .agg #[.int .i64 b.qubits, .int .i64 b.bits, .slice bo m cq]] w fun e w' => (∃ (a' : Option Addr) (c' : Nat), e = .returned (.tuple #[.agg #[.int .i64 a.qubits, .int .i64 a.bits, .slice a' (n + m) c'], .agg #[.int .i64 0, .int .i64 0]]) ∧ OpsN w' w.heap.size (.slice a' (n + m) c') (a.ops ++ b.ops)) ∧ Ext w w' := by
  obtain ⟨hcA, hcB, hqq, hbb, hlen⟩ := thnF_zero hc
  obtain ⟨i0, hi, hz0, hz1, hz2⟩ := info_parts op_info
  obtain ⟨hzA, hA1', hA2', hA3', hA4', hA5', hopA⟩ := chk_zero hcA
  obtain ⟨hzB, hB1', hB2', hB3', hB4', hB5', hopB⟩ := chk_zero hcB
  have hfitA : ∀ g ∈ a.ops, g.ctl.length ≤ 1000 ∧ g.cnd.length ≤ 1000 := fun g hg => by
    have f := prFit_of_code hA2' hA3' hA4' (hopA g hg)
    exact ⟨Nat.le_trans f.few (by decide), Nat.le_trans f.cfew (by decide)⟩
  have hfitB : ∀ g ∈ b.ops, g.ctl.length ≤ 1000 ∧ g.cnd.length ≤ 1000 := fun g hg => by
    have f := prFit_of_code hB2' hB3' hB4' (hopB g hg)
    exact ⟨Nat.le_trans f.few (by decide), Nat.le_trans f.cfew (by decide)⟩
  clear hA1' hA2' hA3' hA4' hB1' hB2' hB3' hB4' hopA hopB hcA hcB
  obtain ⟨qa, ba, opsA⟩ := a
  obtain ⟨qb, bb, opsB⟩ := b
  simp only at hA hB ⊢
  have hlA : opsA.length = n := hA.1
  have hlB : opsB.length = m := hB.1
  obtain ⟨H, hH⟩ : ∃ H, w.heap.size = H := ⟨_, rfl⟩
  obtain ⟨A1, hA1⟩ : ∃ A1, w.alloc (.cells #[.int .i64 qa, .int .i64 ba, .slice ao n cp] 24) = A1 := ⟨_, rfl⟩
  obtain ⟨A2, hA2⟩ : ∃ A2, A1.alloc (.cells #[.int .i64 qb, .int .i64 bb, .slice bo m cq] 24) = A2 := ⟨_, rfl⟩
  obtain ⟨A3, hA3⟩ : ∃ A3, A2.alloc (.cells #[.int .i64 0, .int .i64 0, .slice none 0 0] 24) = A3 := ⟨_, rfl⟩
  obtain ⟨A4, hA4⟩ : ∃ A4, A3.alloc (.cells #[.int .i64 0, .int .i64 0] 28) = A4 := ⟨_, rfl⟩
  have s1 : A1.heap.size = H + 1 := by rw [← hA1, ← hH]; simp
  have s2 : A2.heap.size = H + 2 := by rw [← hA2]; simp; omega
  have s3 : A3.heap.size = H + 3 := by rw [← hA3]; simp; omega
  have s4 : A4.heap.size = H + 4 := by rw [← hA4]; simp; omega
  have x1 : Ext w A1 := by rw [← hA1]; exact ext_al _ _
  have x2 : Ext A1 A2 := by rw [← hA2]; exact ext_al _ _
  have x3 : Ext A2 A3 := by rw [← hA3]; exact ext_al _ _
  have x4 : Ext A3 A4 := by rw [← hA4]; exact ext_al _ _
  have bA : CiB A4 H qa ba ao n cp := by
    have : CiB A1 H qa ba ao n cp := by rw [← hA1, ← hH]; exact ⟨heap_alloc_new w _⟩
    exact ((this.ext x2).ext x3).ext x4
  have bB : CiB A4 (H + 1) qb bb bo m cq := by
    have : CiB A2 (H + 1) qb bb bo m cq := by rw [← hA2, ← s1]; exact ⟨heap_alloc_new A1 _⟩
    exact (this.ext x3).ext x4
  have bR : CiB A4 (H + 2) 0 0 none 0 0 := by
    have : CiB A3 (H + 2) 0 0 none 0 0 := by rw [← hA3, ← s2]; exact ⟨heap_alloc_new A2 _⟩
    exact this.ext x4
  have bF : FtB A4 (H + 3) 0 0 := by rw [← hA4, ← s3]; exact ⟨heap_alloc_new A3 _⟩
  have E0 : Ext w A4 := ((x1.trans x2).trans x3).trans x4
  have hAA : (((w.alloc (.cells #[.int .i64 qa, .int .i64 ba, .slice ao n cp] 24)).alloc (.cells #[.int .i64 qb, .int .i64 bb, .slice bo m cq] 24)).alloc (.cells #[.int .i64 0, .int .i64 0, .slice none 0 0] 24)).alloc (.cells #[.int .i64 0, .int .i64 0] 28) = A4 := by rw [hA1, hA2, hA3, hA4]
  have m0 := bA.x0; have m1 := bA.x1; have m2 := bA.x2
  rw [← hAA] at m0 m1 m2
  have HAA := Lib.hid hAA; have HE0 := Lib.hid E0; have HbA0 := Lib.hid bA; have HbB0 := Lib.hid bB; have HbR0 := Lib.hid bR; have HbF0 := Lib.hid bF; have Hs4 := Lib.hid s4; have HhH := Lib.hid hH
  have HKa := Lib.hid (RCheck_any ⟨qa, ba, opsA⟩ ao n cp A4 (hA.ext E0) hn hcp)
  have HKb := Lib.hid (fun wx (hx : Ext w wx) => RCheck_any ⟨qb, bb, opsB⟩ bo m cq wx (hB.ext hx) hm hcq)
  simp only at HKa HKb
  have HlA := Lib.hid hlA; have HlB := Lib.hid hlB; have HopA := Lib.hid hA; have HopB := Lib.hid hB
  simp only at hzA hzB hqq hbb hlen hfitA hfitB hA5' hB5'
  rw [hzA] at HKa
  rw [hzB] at HKb
  rw [hlA, hlB] at hlen
  rw [hlA] at hA5'
  rw [hlB] at hB5'
  subst hqq; subst hbb
  simp only at HKa HKb
  have HfB := Lib.hid hfitB
  have HCo := Lib.hid (fun wx (hx : Ext w wx) => CopyCircuit_N ⟨qa, ba, opsA⟩ ao n cp wx (hA.ext hx) (by omega) (fun g hg => by have := hfitA g hg; omega))
  simp only at HCo
  clear hzA hzB hfitA hfitB hc
  clear hA hB E0 bA bB bR bF x1 x2 x3 x4 s1 s2 s3 s4 hA1 hA2 hA3 hA4 hAA hlA hlB
  go_enter Tryd.func20, Tryd.ntmps20
  go_wp2_with fail
  rw [HAA.out]
  refine HKa.out.mono ?_
  rintro e w1 ⟨rfl, hx1⟩
  have hlo : H + 4 ≤ w1.heap.size := by rw [← Hs4.out]; exact hx1.size
  have Hlo := Lib.hid hlo
  clear m0 m1 m2 HKa hlo
  have Ef := ext_al w1 (.cells #[.int .i64 0, .int .i64 0] 28)
  have hX := hx1.trans Ef
  have bf1 : FtB (w1.alloc (.cells #[.int .i64 0, .int .i64 0] 28)) w1.heap.size 0 0 := ⟨heap_alloc_new w1 _⟩
  have q0 := bf1.x0
  have HbA := Lib.hid (HbA0.out.ext hX); have HbB := Lib.hid (HbB0.out.ext hX); have HbR := Lib.hid (HbR0.out.ext hX); have HbF := Lib.hid (HbF0.out.ext hX); have Hbf := Lib.hid bf1; have HbE := Lib.hid (HE0.out.trans hX)
  have j0 := HbB.out.x0; have j1 := HbB.out.x1; have j2 := HbB.out.x2
  clear Ef hX bf1 hx1 HbA0 HbB0 HbR0 HbF0 HE0
  go_upto_region 2 with fail
  generalize w1.alloc (.cells #[.int .i64 0, .int .i64 0] 28) = W1 at *
  obtain ⟨Fb, hFb⟩ : ∃ y, w1.heap.size = y := ⟨_, rfl⟩
  rw [hFb] at Hbf Hlo q0 ⊢
  have nF2 : Fb ≠ H + 2 := by have := Hlo.out; omega
  have nF3 : Fb ≠ H + 3 := by have := Hlo.out; omega
  clear hFb
  go_wp2_with fail
  refine (HKb.out W1 HbE.out).mono ?_
  rintro e w2 ⟨rfl, hx2⟩
  have hf2 := Hbf.out.ext hx2
  have p0 := hf2.x0; have p1 := hf2.x1; have p2 := hf2.f 0; have p3 := hf2.f 1
  have hOn := only2 w2 Fb (.int .i64 0) (.int .i64 0)
  have Hbf2 := Lib.hid (hf2.put 0 0)
  have nFA : H ≠ Fb := by have := Hlo.out; omega
  have nFB : H + 1 ≠ Fb := by have := Hlo.out; omega
  have HbA2 := Lib.hid ((HbA.out.ext hx2).kept hOn nFA); have HbB2 := Lib.hid ((HbB.out.ext hx2).kept hOn nFB); have HbR2 := Lib.hid ((HbR.out.ext hx2).kept hOn nF2.symm); have HbF2 := Lib.hid ((HbF.out.ext hx2).kept hOn nF3.symm)
  have HbE2 := Lib.hid (ext_only (HbE.out.trans hx2) hOn (by have := Hlo.out; omega))
  clear hx2 hf2 hOn HKb HbA HbB HbR HbF Hbf HbE q0 j0 j1 j2 nFA nFB
  go_upto_region 4 with fail
  generalize (w2.setCell ⟨Fb, 0, none⟩ (.int .i64 0)).setCell ⟨Fb, 1, none⟩ (.int .i64 0) = W2 at *
  clear p0 p1 p2 p3
  have q0 := Hbf2.out.x0
  have j0 := HbB2.out.x0; have j1 := HbB2.out.x1; have j2 := HbB2.out.x2; have l0 := HbA2.out.x0; have l1 := HbA2.out.x1; have l2 := HbA2.out.x2
  have hb1 := ne_f (show ba = ba from rfl); have hb2 := eq_t (show ba = ba from rfl); have hq1 := ne_f (show qa = qa from rfl); have hq2 := eq_t (show qa = qa from rfl)
  have wl : IntKind.i64.wrap ((n : Int) + (m : Int)) = ((n + m : Nat) : Int) := by rw [IntKind.wrap_i64]; omega
  have p9 : ¬ (4096 : Int) < ((n + m : Nat) : Int) := by omega
  have p9' : decide ((4096 : Int) < ((n + m : Nat) : Int)) = false := df p9
  obtain ⟨nm, hnm⟩ : ∃ y : Int, ((n + m : Nat) : Int) = y := ⟨_, rfl⟩
  rw [hnm] at wl p9 p9'
  clear hnm
  go_wp2_with fail
  refine (HCo.out W2 HbE2.out).mono ?_
  rintro e w3 ⟨⟨a3, c3, rfl, hO3⟩, hx3⟩
  have EO := ext_al w3 (.cells #[.int .i64 qa, .int .i64 ba, .slice a3 n c3] 24)
  have hX := hx3.trans EO
  have bOc : CiB (w3.alloc (.cells #[.int .i64 qa, .int .i64 ba, .slice a3 n c3] 24)) w3.heap.size qa ba a3 n c3 := ⟨heap_alloc_new w3 _⟩
  have HB3 := Lib.hid (HbB2.out.ext hX); have HR3 := Lib.hid (HbR2.out.ext hX); have HF3 := Lib.hid (HbF2.out.ext hX); have Hf3 := Lib.hid (Hbf2.out.ext hX); have HE3 := Lib.hid (HbE2.out.trans hX); have HO3 := Lib.hid bOc; have Hown3 := Lib.hid (hO3.ext EO)
  obtain ⟨base, hbase⟩ : ∃ y, W2.heap.size = y := ⟨_, rfl⟩
  have Hb3 := Lib.hid (show base ≤ (w3.alloc (.cells #[.int .i64 qa, .int .i64 ba, .slice a3 n c3] 24)).heap.size by rw [← hbase]; exact hX.size)
  have Hgb := Lib.hid (show base ≤ w3.heap.size by rw [← hbase]; exact hx3.size)
  have HFbB := Lib.hid (show Fb < base by rw [← hbase]; exact Hbf2.out.lt)
  have Hbw := Lib.hid (show w.heap.size ≤ base by rw [← hbase]; exact HbE2.out.size)
  rw [hbase] at Hown3
  clear hx3 hX EO bOc hO3 HbA2 HbB2 HbR2 HbF2 Hbf2 HbE2 HCo q0 j0 j1 j2 l0 l1 l2 hbase
  go_wp2_with fail
  generalize w3.alloc (.cells #[.int .i64 qa, .int .i64 ba, .slice a3 n c3] 24) = W3 at *
  obtain ⟨Ob, hOb⟩ : ∃ y, w3.heap.size = y := ⟨_, rfl⟩
  rw [hOb] at HO3 Hgb ⊢
  clear hOb
  have nO1 : H + 1 ≠ Ob := by have := Hgb.out; have := HFbB.out; have := Hlo.out; omega
  have nO2 : H + 2 ≠ Ob := by have := Hgb.out; have := HFbB.out; have := Hlo.out; omega
  have nO3 : H + 3 ≠ Ob := by have := Hgb.out; have := HFbB.out; have := Hlo.out; omega
  have nO4 : Fb ≠ Ob := by have := Hgb.out; have := HFbB.out; omega
  have HwB := Lib.hid (show w.heap.size ≤ Ob by have := Hgb.out; have := Hbw.out; omega)
  go_loopg [8] m (fun kk s8 wx => ∃ (i : Nat) (av : Option Addr) (cv : Nat), s8 = .int .i64 (i : Int) ∧ i ≤ m ∧ m - i = kk ∧ CiB wx (H + 1) qa ba bo m cq ∧ CiB wx (H + 2) 0 0 none 0 0 ∧ FtB wx (H + 3) 0 0 ∧ FtB wx Fb 0 0 ∧ CiB wx Ob qa ba av (n + i) cv ∧ OpsN wx base (.slice av (n + i) cv) (opsA ++ opsB.take i) ∧ Ext w wx ∧ base ≤ wx.heap.size)
  case atStart => exact ⟨0, a3, c3, rfl, by omega, by omega, HB3.out, HR3.out, HF3.out, Hf3.out, HO3.out, by rw [List.take_zero, List.append_nil]; exact Hown3.out, HE3.out, Hb3.out⟩
  case round =>
    clear HB3 HR3 HF3 Hf3 HO3 Hown3 HE3
    obtain ⟨i, av, cv, rfl, him, hk, bB, bR, bF, bf, bO, hown, hX, hbs⟩ := hrel
    by_cases hin : i = m
    · have q1 : ¬ (i : Int) < (m : Int) := by omega
      have q1' : decide ((i : Int) < (m : Int)) = false := df q1
      rw [List.take_of_length_le (by rw [HlB.out]; omega)] at hown
      obtain ⟨L, hL⟩ : ∃ y, n + i = y := ⟨_, rfl⟩
      rw [hL] at bO hown
      have HLe := Lib.hid (show L = n + m by omega)
      have y0 := bO.x0; have y1 := bO.x1; have y2 := bO.x2; have w2 := bB.x2
      have r0 := bR.x0; have r1 := bR.x1; have r2 := bR.x2; have g0 := bR.f 0; have g1 := bR.f 1; have g2 := bR.f 2
      have f0 := bF.x0; have f1 := bF.x1; have k0 := bF.f 0; have k1 := bF.f 1
      have d0 := bf.x0; have d1 := bf.x1
      have zC := (putCF_C bR (show H + 2 ≠ H + 3 by omega) qa ba av L cv 0 0).drew
      have zF := (putCF_F bF (show H + 2 ≠ H + 3 by omega) qa ba av L cv 0 0).drew
      have zO : OpsN (putCF wr (H + 2) (H + 3) qa ba av L cv 0 0).drew base (.slice av L cv) (opsA ++ opsB) := OpsN.ext (putCF_opsN hown bR bF (show H + 2 ≠ H + 3 by omega) qa ba av L cv 0 0) (cdrew (Ext.refl _))
      have zE : Ext w (putCF wr (H + 2) (H + 3) qa ba av L cv 0 0).drew := Below.drew (putCF_ext hX (show w.heap.size ≤ H + 2 by omega) (show w.heap.size ≤ H + 3 by omega) _ _ _ _ _ _ _)
      obtain ⟨Wz, hWz⟩ : ∃ Wz, putCF wr (H + 2) (H + 3) qa ba av L cv 0 0 = Wz := ⟨_, rfl⟩
      rw [hWz] at zC zF zO zE
      unfold putCF at hWz
      have HWz := Lib.hid hWz; have HzE := Lib.hid zE; have HzO := Lib.hid (zO.down (show H ≤ base by have := Hbw.out; omega))
      have v0 := zC.x0; have v1 := zC.x1; have v2 := zC.x2; have v3 := zF.x0; have v4 := zF.x1
      clear zC zF zO zE hWz bB bR bF bf bO hX hown him hk hbs hL hin
      go_upto_region 15 with fail
      go_region
      go_wp2_with fail
      rw [HWz.out]
      exact bodyPost_ret (v := .tuple #[.agg #[.int .i64 qa, .int .i64 ba, .slice av L cv], .agg #[.int .i64 0, .int .i64 0]]) (by simp [results, Tryd.results20, go_sem, v0, v1, v2, v3, v4]) rfl ⟨⟨av, cv, by rw [HLe.out], by rw [← HLe.out]; exact HzO.out⟩, HzE.out⟩
    · have q1 : (i : Int) < (m : Int) := by omega
      have q1' : decide ((i : Int) < (m : Int)) = true := dt q1
      have q0 : (0 : Int) ≤ (i : Int) := by omega
      obtain ⟨gg, hg⟩ : ∃ g, opsB[i]? = some g := ⟨_, List.getElem?_eq_getElem (by rw [HlB.out]; omega)⟩
      have hst : opsA ++ opsB.take (i + 1) = opsA ++ opsB.take i ++ [gg] := by rw [List.take_add_one, hg, List.append_assoc]; rfl
      obtain ⟨L, hL⟩ : ∃ y, n + i = y := ⟨_, rfl⟩
      rw [hL] at bO hown
      have HLs := Lib.hid (show n + (i + 1) = L + 1 by omega)
      have Hli := Lib.hid (show (opsA ++ opsB.take i).length = L by rw [List.length_append, List.length_take, HlA.out, HlB.out]; omega)
      have hL4 : L ≤ 10000 := by omega
      obtain ⟨b, o, rfl⟩ := (HopB.out.ext hX).some_of (by omega)
      obtain ⟨a1, n1, c1, a2, n2, c2, e0, e1, e2, e3, e4, e5, hLo⟩ := (HopB.out.ext hX).at i gg hg
      have HbB := Lib.hid (show b < base by
        rcases HopB.out.2 with h0 | ⟨b', o', e, hb', _⟩
        · omega
        · cases e; have := Hbw.out; omega)
      obtain ⟨hbl1, hbl2⟩ := HfB.out gg (List.mem_of_getElem? hg)
      obtain ⟨kd, kk', ctl, qq, bb', cnd⟩ := gg
      simp only at e0 e1 e3 e4 hbl1 hbl2 hst
      have hn1' : n1 ≤ 1000 := by rw [← hLo.i1.1]; exact hbl1
      have hn2' : n2 ≤ 1000 := by rw [← hLo.i2.1]; exact hbl2
      have HCp := Lib.hid (fun wx (hx : Ext wr wx) => copyOp_N ⟨kd, kk', ctl, qq, bb', cnd⟩ a1 n1 c1 a2 n2 c2 wx (hLo.ext hx) (by omega) (by omega))
      simp only at HCp
      have v0 := bO.x2; have v2 := bB.x2
      have HOut := Lib.hid bO; have HSrc := Lib.hid bB; have HR := Lib.hid bR; have HF := Lib.hid bF; have Hf := Lib.hid bf; have HEw := Lib.hid hX; have Hbs := Lib.hid hbs; have Hst := Lib.hid hst; have Hown := Lib.hid hown; have Hk := Lib.hid hk
      clear bB bR bF bf bO hX hown hst hLo hbl1 hbl2 hg hk hbs hL
      go_upto_region 14 with fail
      have hE0d : Ext wr wr.drew := Below.drew (Ext.refl _)
      refine wp_region_K 11 (fun w' => w'.cell? ⟨Ob, 2, none⟩ = some (.slice av L cv) ∧ w'.cell? ⟨(H + 1), 2, none⟩ = some (.slice (some ⟨b, o, none⟩) m cq) ∧ w'.cell? ⟨b, o + i * 6, none⟩ = some (.int .i64 kd) ∧ w'.cell? ⟨b, o + i * 6 + 1, none⟩ = some (.int .i64 kk') ∧ w'.cell? ⟨b, o + i * 6 + 2, none⟩ = some (.slice a1 n1 c1) ∧ w'.cell? ⟨b, o + i * 6 + 3, none⟩ = some (.int .i64 qq) ∧ w'.cell? ⟨b, o + i * 6 + 4, none⟩ = some (.int .i64 bb') ∧ w'.cell? ⟨b, o + i * 6 + 5, none⟩ = some (.slice a2 n2 c2)) (by kernel_rfl) ?_
      show anyK _ _ _ _ _ _ 12 #[false, false, false, false, false, false, false, false, false, false, false, false] _ _
      have hHeld : wr.drew.cell? ⟨Ob, 2, none⟩ = some (.slice av L cv) ∧ wr.drew.cell? ⟨(H + 1), 2, none⟩ = some (.slice (some ⟨b, o, none⟩) m cq) ∧ wr.drew.cell? ⟨b, o + i * 6, none⟩ = some (.int .i64 kd) ∧ wr.drew.cell? ⟨b, o + i * 6 + 1, none⟩ = some (.int .i64 kk') ∧ wr.drew.cell? ⟨b, o + i * 6 + 2, none⟩ = some (.slice a1 n1 c1) ∧ wr.drew.cell? ⟨b, o + i * 6 + 3, none⟩ = some (.int .i64 qq) ∧ wr.drew.cell? ⟨b, o + i * 6 + 4, none⟩ = some (.int .i64 bb') ∧ wr.drew.cell? ⟨b, o + i * 6 + 5, none⟩ = some (.slice a2 n2 c2) := ⟨cell_ext v0 hE0d, cell_ext v2 hE0d, cell_ext e0 hE0d, cell_ext e1 hE0d, cell_ext e2 hE0d, cell_ext e3 hE0d, cell_ext e4 hE0d, cell_ext e5 hE0d⟩
      refine anyK_take (i := 0) (v := ?_) rfl (by kernel_rfl) (by kernel_rfl) (by kernel_rfl) (N := 8) (by kernel_rfl) (by kernel_rfl) (by kernel_rfl) (fun _ _ _ h => h) (Or.inl ⟨by rfl, ?_⟩) hHeld ?_
      rotate_left 1
      · intro w hSw
        go_simp
        try with_reducible rfl
      show anyK _ _ _ _ _ _ _ _ (Act.put _ (some 62) _) _
      simp only [Act.put, List.setIfInBounds_toArray, List.set_cons_zero, List.set_cons_succ]
      refine anyK_take (i := 1) (v := ?_) rfl (by kernel_rfl) (by kernel_rfl) (by kernel_rfl) (N := 8) (by kernel_rfl) (by kernel_rfl) (by kernel_rfl) (fun _ _ _ h => h) (Or.inl ⟨by rfl, ?_⟩) hHeld ?_
      rotate_left 1
      · intro w hSw
        go_simp
        try with_reducible rfl
      show anyK _ _ _ _ _ _ _ _ (Act.put _ (some 63) _) _
      simp only [Act.put, List.setIfInBounds_toArray, List.set_cons_zero, List.set_cons_succ]
      refine anyK_take (i := 2) (v := ?_) rfl (by kernel_rfl) (by kernel_rfl) (by kernel_rfl) (N := 8) (by kernel_rfl) (by kernel_rfl) (by kernel_rfl) (fun _ _ _ h => h) (Or.inl ⟨by rfl, ?_⟩) hHeld ?_
      rotate_left 1
      · intro w hSw
        go_simp
        try with_reducible rfl
      show anyK _ _ _ _ _ _ _ _ (Act.put _ (some 64) _) _
      simp only [Act.put, List.setIfInBounds_toArray, List.set_cons_zero, List.set_cons_succ]
      refine anyK_take (i := 3) (v := ?_) rfl (by kernel_rfl) (by kernel_rfl) (by kernel_rfl) (N := 8) (by kernel_rfl) (by kernel_rfl) (by kernel_rfl) (fun _ _ _ h => h) (Or.inl ⟨by rfl, ?_⟩) hHeld ?_
      rotate_left 1
      · intro w hSw
        go_simp
        try with_reducible rfl
      show anyK _ _ _ _ _ _ _ _ (Act.put _ (some 65) _) _
      simp only [Act.put, List.setIfInBounds_toArray, List.set_cons_zero, List.set_cons_succ]
      refine anyK_take (i := 4) (v := ?_) rfl (by kernel_rfl) (by kernel_rfl) (by kernel_rfl) (N := 8) (by kernel_rfl) (by kernel_rfl) (by kernel_rfl) (fun _ _ _ h => h) (Or.inl ⟨by rfl, ?_⟩) hHeld ?_
      rotate_left 1
      · intro w hSw
        go_simp
        try with_reducible rfl
      show anyK _ _ _ _ _ _ _ _ (Act.put _ (some 66) _) _
      simp only [Act.put, List.setIfInBounds_toArray, List.set_cons_zero, List.set_cons_succ]
      refine anyK_take (i := 5) (v := ?_) rfl (by kernel_rfl) (by kernel_rfl) (by kernel_rfl) (N := 8) (by kernel_rfl) (by kernel_rfl) (by kernel_rfl) (fun _ _ _ h => h) (Or.inl ⟨by rfl, ?_⟩) hHeld ?_
      rotate_left 1
      · intro w hSw
        go_simp
        try with_reducible rfl
      show anyK _ _ _ _ _ _ _ _ (Act.put _ (some 67) _) _
      simp only [Act.put, List.setIfInBounds_toArray, List.set_cons_zero, List.set_cons_succ]
      refine anyK_take (i := 6) (v := ?_) rfl (by kernel_rfl) (by kernel_rfl) (by kernel_rfl) (N := 8) (by kernel_rfl) (by kernel_rfl) (by kernel_rfl) (fun _ _ _ h => h) (Or.inl ⟨by rfl, ?_⟩) hHeld ?_
      rotate_left 1
      · intro w hSw
        go_simp
        try with_reducible rfl
      show anyK _ _ _ _ _ _ _ _ (Act.put _ (some 68) _) _
      simp only [Act.put, List.setIfInBounds_toArray, List.set_cons_zero, List.set_cons_succ]
      clear hHeld
      refine anyK_one (i := 7) (by kernel_rfl) rfl (fun Kk hKk => ?_)
      go_simp
      (go_at_call 22; refine (HCp.out _ hE0d).mono ?_; rintro e w4 ⟨⟨a3, c3, a5, c5, rfl, O4⟩, hx4⟩; have he4 : Ext wr w4 := hE0d.trans hx4)
      go_wp2_with fail
      refine hKk.out _ _ (fun _ => ⟨cell_ext v0 he4, cell_ext v2 he4, cell_ext e0 he4, cell_ext e1 he4, cell_ext e2 he4, cell_ext e3 he4, cell_ext e4 he4, cell_ext e5 he4⟩) ?_
      clear hKk Kk
      simp only [List.setIfInBounds_toArray, List.set_cons_zero, List.set_cons_succ]
      have he5 : Ext wr (w4.alloc (.cells #[.int .i64 kd, .int .i64 kk', .slice a3 n1 c3, .int .i64 qq, .int .i64 bb', .slice a5 n2 c5] 43)) := he4.trans (ext_al _ _)
      refine anyK_one (i := 8) (by kernel_rfl) rfl (fun Kk hKk => ?_)
      go_wp2_with fail
      refine hKk.out _ _ (fun _ => ⟨cell_ext v0 he5, cell_ext v2 he5, cell_ext e0 he5, cell_ext e1 he5, cell_ext e2 he5, cell_ext e3 he5, cell_ext e4 he5, cell_ext e5 he5⟩) ?_
      clear hKk Kk
      simp only [List.setIfInBounds_toArray, List.set_cons_zero, List.set_cons_succ]
      obtain ⟨xs, hx0⟩ := Hown.out
      have hli := Hli.out
      have hxx := hx0.ext he4
      have ho := hxx.own
      have ho5 := ho.alloc (.cells #[.int .i64 kd, .int .i64 kk', .slice a3 n1 c3, .int .i64 qq, .int .i64 bb', .slice a5 n2 c5] 43)
      rw [hli] at ho5
      obtain ⟨g, cap, w7, hrun, hown', hgrow', hcase, hglt⟩ := run_append_lies (P := Tryd.prog) (w4.alloc (.cells #[.int .i64 kd, .int .i64 kk', .slice a3 n1 c3, .int .i64 qq, .int .i64 bb', .slice a5 n2 c5] 43)) 22 22 base 43 i0 (.agg #[.int .i64 0, .int .i64 0, .slice none 0 0, .int .i64 0, .int .i64 0, .slice none 0 0]) 6 80 Tryd.underlying22 hi hz0 hz1 hz2 rfl (by decide) (.slice av L cv) L xs ho5 ⟨w4.heap.size, 0, none⟩ 1 1 [.int .i64 kd, .int .i64 kk', .slice a3 n1 c3, .int .i64 qq, .int .i64 bb', .slice a5 n2 c5] rfl (new_op w4 _ _ _ _ _ _ _ _ _ _ _) (one_op _ _ _ _ _ _ _ _ _ _) (by omega) (by unfold maxLen; omega) (by omega) (Nat.le_trans Hbs.out he5.size) _ rfl
      refine anyK_one (i := 9) (by kernel_rfl) rfl (fun Kk hKk => ?_)
      refine stepK_append rfl _ _ 22 rfl (.slice av L cv) (.slice (some ⟨w4.heap.size, 0, none⟩) 1 1) _ rfl rfl hrun ?_
      have hkind := PtKind ho5
      have hk7 := grown_ints hgrow' hkind
      have O7 := (O4.ext (ext_al _ (.cells #[.int .i64 kd, .int .i64 kk', .slice a3 n1 c3, .int .i64 qq, .int .i64 bb', .slice a5 n2 c5] 43))).keep hk7
      have own7 := OpsX.snoc (g := ⟨kd, kk', ctl, qq, bb', cnd⟩) (hxx.ext (ext_al _ _)) (by rw [hli]; exact hown') hk7 hx0.old Hbs.out O7
      have bOut7 := CiB_grownK hgrow' hkind (HOut.out.ext he5)
      have bSrc7 := CiB_grownK hgrow' hkind (HSrc.out.ext he5)
      have bHR7 := CiB_grownK hgrow' hkind (HR.out.ext he5)
      have bHF7 := FtB_grownK hgrow' hkind (HF.out.ext he5)
      have bHf7 := FtB_grownK hgrow' hkind (Hf.out.ext he5)
      have x2' := bOut7.x2; have fz2 := bOut7.f 2
      have hHeld : w7.cell? ⟨Ob, 2, none⟩ = some (.slice av L cv) ∧ w7.cell? ⟨(H + 1), 2, none⟩ = some (.slice (some ⟨b, o, none⟩) m cq) ∧ w7.cell? ⟨b, o + i * 6, none⟩ = some (.int .i64 kd) ∧ w7.cell? ⟨b, o + i * 6 + 1, none⟩ = some (.int .i64 kk') ∧ w7.cell? ⟨b, o + i * 6 + 2, none⟩ = some (.slice a1 n1 c1) ∧ w7.cell? ⟨b, o + i * 6 + 3, none⟩ = some (.int .i64 qq) ∧ w7.cell? ⟨b, o + i * 6 + 4, none⟩ = some (.int .i64 bb') ∧ w7.cell? ⟨b, o + i * 6 + 5, none⟩ = some (.slice a2 n2 c2) := ⟨x2', bSrc7.x2, cell_grown hgrow' hkind e0 he5 HbB.out, cell_grown hgrow' hkind e1 he5 HbB.out, cell_grown hgrow' hkind e2 he5 HbB.out, cell_grown hgrow' hkind e3 he5 HbB.out, cell_grown hgrow' hkind e4 he5 HbB.out, cell_grown hgrow' hkind e5 he5 HbB.out⟩
      refine hKk.out _ _ (fun _ => hHeld) ?_
      clear hKk Kk
      show anyK _ _ _ _ _ _ _ _ (Act.put _ (some 71) _) _
      simp only [Act.put, List.setIfInBounds_toArray, List.set_cons_zero, List.set_cons_succ]
      refine anyK_take (i := 10) (v := ?_) rfl (by kernel_rfl) (by kernel_rfl) (by kernel_rfl) (N := 8) (by kernel_rfl) (by kernel_rfl) (by kernel_rfl) (fun _ _ _ h => h) (Or.inl ⟨by rfl, ?_⟩) hHeld ?_
      rotate_left 1
      · intro w hSw
        go_simp
        try with_reducible rfl
      show anyK _ _ _ _ _ _ _ _ (Act.put _ (some 72) _) _
      simp only [Act.put, List.setIfInBounds_toArray, List.set_cons_zero, List.set_cons_succ]
      clear hHeld
      refine anyK_one (i := 11) (by kernel_rfl) rfl (fun Kk hKk => ?_)
      refine stepK_store rfl rfl _ _ rfl Ob 2 (some ⟨g, 0, none⟩) (L + 1) cap (.slice av L cv) rfl rfl x2' fz2 ?_
      refine hKk.out _ _ (fun h => Bool.noConfusion (show true = false from h)) ?_
      clear hKk Kk
      simp only [List.setIfInBounds_toArray, List.set_cons_zero, List.set_cons_succ]
      refine anyK_done (by kernel_rfl) ?_ _
      have hOo := only1 w7 Ob 2 (.slice (some ⟨g, 0, none⟩) (L + 1) cap)
      have Hown8 := Lib.hid (show OpsN _ base _ _ from ⟨_, own7.far bOut7.row (by decide) (by decide) hOo⟩)
      have HOut8 := Lib.hid (bOut7.set2 (some ⟨g, 0, none⟩) (L + 1) cap)
      have HSrc8 := Lib.hid (bSrc7.kept hOo (by omega))
      have HR8 := Lib.hid (bHR7.kept hOo (by omega))
      have HF8 := Lib.hid (bHF7.kept hOo (by omega))
      have Hf8 := Lib.hid (bHf7.kept hOo (by omega))
      have HE8 := Lib.hid (ext_only (grown_ext (HEw.out.trans he5) hgrow' (fun k hk => by have h1 := (hkind k hk).1; have h2 := Hbw.out; omega)) hOo HwB.out)
      have Hs8 := Lib.hid (show base ≤ (w7.setCell ⟨Ob, 2, none⟩ (.slice (some ⟨g, 0, none⟩) (L + 1) cap)).heap.size by rw [hOo.size]; exact Nat.le_trans (Nat.le_trans Hbs.out he5.size) hgrow'.size)
      clear own7 bOut7 bSrc7 bHR7 bHF7 bHf7 O7 hk7 hkind hgrow' hown' hrun ho5 ho hxx hx0 O4 hx4 he4 he5 hE0d v0 v2 e0 e1 e2 e3 e4 e5 x2' fz2 hOo hli hcase hglt
      generalize w7.setCell ⟨Ob, 2, none⟩ (.slice (some ⟨g, 0, none⟩) (L + 1) cap) = w8 at *
      go_wp2_with fail
      go_roundg (m - (i + 1))
      case measure => have := Hk.out; omega
      case rel => exact ⟨i + 1, some ⟨g, 0, none⟩, cap, by go_num, by omega, rfl, HSrc8.out, HR8.out, HF8.out, Hf8.out, by rw [HLs.out]; exact HOut8.out, by rw [Hst.out, HLs.out]; exact Hown8.out, HE8.out, Hs8.out⟩

end Go.Proofs.YtapolidgocfbjaaDoor
namespace Go.Proofs.YtapolidgocfbjaaDoor
open Go.RowKit

set_option maxHeartbeats 4000000 in
set_option maxRecDepth 100000 in
theorem RInverse_no (c : Gci) (ao : Option Addr) (n cp : Nat) (w : World) (h : OpsAt w ao n c.ops) (hn : n ≤ cp) (hcp : cp ≤ 9223372036854775807) (hc : (pur c).1 ≠ 0) :
    Calls Tryd.prog 8 #[.agg #[.int .i64 c.qubits, .int .i64 c.bits, .slice ao n cp]] w fun e w' => e = .returned (.tuple #[.agg #[.int .i64 0, .int .i64 0, .slice none 0 0], .agg #[.int .i64 (pur c).1, .int .i64 (pur c).2]]) ∧ Ext w w' := by
  obtain ⟨qb, bi, ops⟩ := c
  obtain ⟨F, hF⟩ : ∃ F, pur ⟨qb, bi, ops⟩ = F := ⟨_, rfl⟩
  obtain ⟨u, v⟩ := F
  rw [hF] at hc ⊢
  simp only at hc ⊢
  obtain ⟨H, hH⟩ : ∃ H, w.heap.size = H := ⟨_, rfl⟩
  obtain ⟨A1, hA1⟩ : ∃ A1, w.alloc (.cells #[.int .i64 qb, .int .i64 bi, .slice ao n cp] 24) = A1 := ⟨_, rfl⟩
  obtain ⟨A2, hA2⟩ : ∃ A2, A1.alloc (.cells #[.int .i64 0, .int .i64 0, .slice none 0 0] 24) = A2 := ⟨_, rfl⟩
  obtain ⟨A3, hA3⟩ : ∃ A3, A2.alloc (.cells #[.int .i64 0, .int .i64 0] 28) = A3 := ⟨_, rfl⟩
  have s1 : A1.heap.size = H + 1 := by rw [← hA1, ← hH]; simp
  have s2 : A2.heap.size = H + 2 := by rw [← hA2]; simp; omega
  have x1 : Ext w A1 := by rw [← hA1]; exact ext_al _ _
  have x2 : Ext A1 A2 := by rw [← hA2]; exact ext_al _ _
  have x3 : Ext A2 A3 := by rw [← hA3]; exact ext_al _ _
  have bC : CiB A3 H qb bi ao n cp := by
    have : CiB A1 H qb bi ao n cp := by rw [← hA1, ← hH]; exact ⟨heap_alloc_new w _⟩
    exact (this.ext x2).ext x3
  have bR : CiB A3 (H + 1) 0 0 none 0 0 := by
    have : CiB A2 (H + 1) 0 0 none 0 0 := by rw [← hA2, ← s1]; exact ⟨heap_alloc_new A1 _⟩
    exact this.ext x3
  have bF : FtB A3 (H + 2) 0 0 := by rw [← hA3, ← s2]; exact ⟨heap_alloc_new A2 _⟩
  have E0 : Ext w A3 := (x1.trans x2).trans x3
  have hA : ((w.alloc (.cells #[.int .i64 qb, .int .i64 bi, .slice ao n cp] 24)).alloc (.cells #[.int .i64 0, .int .i64 0, .slice none 0 0] 24)).alloc (.cells #[.int .i64 0, .int .i64 0] 28) = A3 := by rw [hA1, hA2, hA3]
  have HK := Lib.hid (RPure_any ⟨qb, bi, ops⟩ ao n cp A3 (h.ext E0) hn hcp)
  rw [hF] at HK
  subst hH
  simp only at HK ⊢
  have m0 := bC.x0; have m1 := bC.x1; have m2 := bC.x2
  rw [← hA] at m0 m1 m2
  have HA := Lib.hid hA; have HE0 := Lib.hid E0; have HR := Lib.hid bR; have HFt := Lib.hid bF
  have nu := nt hc; have nb := bf hc
  clear h hF E0 bC bR bF x1 x2 x3 s1 s2 hA1 hA2 hA3 hA
  go_enter Tryd.func8, Tryd.ntmps8
  go_wp2_with fail
  rw [HA.out]
  refine HK.out.mono ?_
  rintro e w1 ⟨rfl, hx1⟩
  have Ef := ext_al w1 (.cells #[.int .i64 u, .int .i64 v] 28)
  have bf1 : FtB (w1.alloc (.cells #[.int .i64 u, .int .i64 v] 28)) w1.heap.size u v := ⟨heap_alloc_new w1 _⟩
  have q0 := bf1.x0; have q1 := bf1.x1
  have hX := hx1.trans Ef
  have bR1 := HR.out.ext hX; have bF1 := HFt.out.ext hX
  have HEz := Lib.hid (HE0.out.trans hX)
  have hsz1 := hX.size; have hA3 := HFt.out.lt
  have r0 := bR1.x0; have r1 := bR1.x1; have r2 := bR1.x2; have g0 := bR1.f 0; have g1 := bR1.f 1; have g2 := bR1.f 2
  have f0 := bF1.x0; have f1 := bF1.x1; have k0 := bF1.f 0; have k1 := bF1.f 1
  have HbR1 := Lib.hid bR1; have HbF1 := Lib.hid bF1
  have hgt : w.heap.size + 1 + 1 < w1.heap.size := Nat.lt_of_lt_of_le hA3 hx1.size
  have hgt1 : w1.heap.size ≠ w.heap.size + 1 := by omega
  have hgt2 : w1.heap.size ≠ w.heap.size + 1 + 1 := by omega
  have zC := (putCF_C HbR1.out (show w.heap.size + 1 ≠ w.heap.size + 1 + 1 by omega) 0 0 none 0 0 u v).drew
  have zF := (putCF_F HbF1.out (show w.heap.size + 1 ≠ w.heap.size + 1 + 1 by omega) 0 0 none 0 0 u v).drew
  have zE : Ext w (putCF (w1.alloc (.cells #[.int .i64 u, .int .i64 v] 28)) (w.heap.size + 1) (w.heap.size + 1 + 1) 0 0 none 0 0 u v).drew := Below.drew (putCF_ext HEz.out (by omega) (by omega) _ _ _ _ _ _ _)
  obtain ⟨Wz, hWz⟩ : ∃ Wz, putCF (w1.alloc (.cells #[.int .i64 u, .int .i64 v] 28)) (w.heap.size + 1) (w.heap.size + 1 + 1) 0 0 none 0 0 u v = Wz := ⟨_, rfl⟩
  rw [hWz] at zC zF zE
  unfold putCF at hWz
  have HWz := Lib.hid hWz; have HzE := Lib.hid zE
  have z0 := zC.x0; have z1 := zC.x1; have z2 := zC.x2; have z3 := zF.x0; have z4 := zF.x1
  clear m0 m1 m2 hx1 Ef bf1 HK hX bR1 bF1 hWz zE zC zF
  clear hsz1 hA3 hgt
  go_upto_region 3 with fail
  go_region
  go_wp2_with fail
  rw [HWz.out]
  exact bodyPost_ret (v := .tuple #[.agg #[.int .i64 0, .int .i64 0, .slice none 0 0], .agg #[.int .i64 u, .int .i64 v]]) (by simp [results, Tryd.results8, go_sem, z0, z1, z2, z3, z4]) rfl ⟨rfl, HzE.out⟩

set_option maxHeartbeats 4000000 in
set_option maxRecDepth 100000 in
theorem RPower_no (c : Gci) (ao : Option Addr) (n cp : Nat) (x : Int) (w : World) (h : OpsAt w ao n c.ops) (hn : n ≤ cp) (hcp : cp ≤ 9223372036854775807) (hc : (pur c).1 ≠ 0) :
    Calls Tryd.prog 18 #[.agg #[.int .i64 c.qubits, .int .i64 c.bits, .slice ao n cp], .int .i64 x] w fun e w' => e = .returned (.tuple #[.agg #[.int .i64 0, .int .i64 0, .slice none 0 0], .agg #[.int .i64 (pur c).1, .int .i64 (pur c).2]]) ∧ Ext w w' := by
  obtain ⟨qb, bi, ops⟩ := c
  obtain ⟨F, hF⟩ : ∃ F, pur ⟨qb, bi, ops⟩ = F := ⟨_, rfl⟩
  obtain ⟨u, v⟩ := F
  rw [hF] at hc ⊢
  simp only at hc ⊢
  obtain ⟨H, hH⟩ : ∃ H, w.heap.size = H := ⟨_, rfl⟩
  obtain ⟨A1, hA1⟩ : ∃ A1, w.alloc (.cells #[.int .i64 qb, .int .i64 bi, .slice ao n cp] 24) = A1 := ⟨_, rfl⟩
  obtain ⟨A2, hA2⟩ : ∃ A2, A1.alloc (.cells #[.int .i64 0, .int .i64 0, .slice none 0 0] 24) = A2 := ⟨_, rfl⟩
  obtain ⟨A3, hA3⟩ : ∃ A3, A2.alloc (.cells #[.int .i64 0, .int .i64 0] 28) = A3 := ⟨_, rfl⟩
  have s1 : A1.heap.size = H + 1 := by rw [← hA1, ← hH]; simp
  have s2 : A2.heap.size = H + 2 := by rw [← hA2]; simp; omega
  have x1 : Ext w A1 := by rw [← hA1]; exact ext_al _ _
  have x2 : Ext A1 A2 := by rw [← hA2]; exact ext_al _ _
  have x3 : Ext A2 A3 := by rw [← hA3]; exact ext_al _ _
  have bC : CiB A3 H qb bi ao n cp := by
    have : CiB A1 H qb bi ao n cp := by rw [← hA1, ← hH]; exact ⟨heap_alloc_new w _⟩
    exact (this.ext x2).ext x3
  have bR : CiB A3 (H + 1) 0 0 none 0 0 := by
    have : CiB A2 (H + 1) 0 0 none 0 0 := by rw [← hA2, ← s1]; exact ⟨heap_alloc_new A1 _⟩
    exact this.ext x3
  have bF : FtB A3 (H + 2) 0 0 := by rw [← hA3, ← s2]; exact ⟨heap_alloc_new A2 _⟩
  have E0 : Ext w A3 := (x1.trans x2).trans x3
  have hA : ((w.alloc (.cells #[.int .i64 qb, .int .i64 bi, .slice ao n cp] 24)).alloc (.cells #[.int .i64 0, .int .i64 0, .slice none 0 0] 24)).alloc (.cells #[.int .i64 0, .int .i64 0] 28) = A3 := by rw [hA1, hA2, hA3]
  have HK := Lib.hid (RPure_any ⟨qb, bi, ops⟩ ao n cp A3 (h.ext E0) hn hcp)
  rw [hF] at HK
  subst hH
  simp only at HK ⊢
  have m0 := bC.x0; have m1 := bC.x1; have m2 := bC.x2
  rw [← hA] at m0 m1 m2
  have HA := Lib.hid hA; have HE0 := Lib.hid E0; have HR := Lib.hid bR; have HFt := Lib.hid bF
  have nu := nt hc; have nb := bf hc
  clear h hF E0 bC bR bF x1 x2 x3 s1 s2 hA1 hA2 hA3 hA
  go_enter Tryd.func18, Tryd.ntmps18
  go_wp2_with fail
  rw [HA.out]
  refine HK.out.mono ?_
  rintro e w1 ⟨rfl, hx1⟩
  have Ef := ext_al w1 (.cells #[.int .i64 u, .int .i64 v] 28)
  have bf1 : FtB (w1.alloc (.cells #[.int .i64 u, .int .i64 v] 28)) w1.heap.size u v := ⟨heap_alloc_new w1 _⟩
  have q0 := bf1.x0; have q1 := bf1.x1
  have hX := hx1.trans Ef
  have bR1 := HR.out.ext hX; have bF1 := HFt.out.ext hX
  have HEz := Lib.hid (HE0.out.trans hX)
  have hsz1 := hX.size; have hA3 := HFt.out.lt
  have r0 := bR1.x0; have r1 := bR1.x1; have r2 := bR1.x2; have g0 := bR1.f 0; have g1 := bR1.f 1; have g2 := bR1.f 2
  have f0 := bF1.x0; have f1 := bF1.x1; have k0 := bF1.f 0; have k1 := bF1.f 1
  have HbR1 := Lib.hid bR1; have HbF1 := Lib.hid bF1
  have hgt : w.heap.size + 1 + 1 < w1.heap.size := Nat.lt_of_lt_of_le hA3 hx1.size
  have hgt1 : w1.heap.size ≠ w.heap.size + 1 := by omega
  have hgt2 : w1.heap.size ≠ w.heap.size + 1 + 1 := by omega
  have zC := (putCF_C HbR1.out (show w.heap.size + 1 ≠ w.heap.size + 1 + 1 by omega) 0 0 none 0 0 u v).drew
  have zF := (putCF_F HbF1.out (show w.heap.size + 1 ≠ w.heap.size + 1 + 1 by omega) 0 0 none 0 0 u v).drew
  have zE : Ext w (putCF (w1.alloc (.cells #[.int .i64 u, .int .i64 v] 28)) (w.heap.size + 1) (w.heap.size + 1 + 1) 0 0 none 0 0 u v).drew := Below.drew (putCF_ext HEz.out (by omega) (by omega) _ _ _ _ _ _ _)
  obtain ⟨Wz, hWz⟩ : ∃ Wz, putCF (w1.alloc (.cells #[.int .i64 u, .int .i64 v] 28)) (w.heap.size + 1) (w.heap.size + 1 + 1) 0 0 none 0 0 u v = Wz := ⟨_, rfl⟩
  rw [hWz] at zC zF zE
  unfold putCF at hWz
  have HWz := Lib.hid hWz; have HzE := Lib.hid zE
  have z0 := zC.x0; have z1 := zC.x1; have z2 := zC.x2; have z3 := zF.x0; have z4 := zF.x1
  clear m0 m1 m2 hx1 Ef bf1 HK hX bR1 bF1 hWz zE zC zF
  clear hsz1 hA3 hgt
  go_upto_region 3 with fail
  go_region
  go_wp2_with fail
  rw [HWz.out]
  exact bodyPost_ret (v := .tuple #[.agg #[.int .i64 0, .int .i64 0, .slice none 0 0], .agg #[.int .i64 u, .int .i64 v]]) (by simp [results, Tryd.results18, go_sem, z0, z1, z2, z3, z4]) rfl ⟨rfl, HzE.out⟩

end Go.Proofs.YtapolidgocfbjaaDoor
