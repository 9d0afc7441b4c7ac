/-
  The program's Then. slices.Reverse of operations in memory of their own. The program's Inverse: what it answers lies in memory of its own.
-/
import Derived.Test.YtfjnlopbmkimiaaGreatDoorProg
import Derived.Test.YtfjnlopbmkimiaaGreatDoorRows
import Derived.BigQuiet
import Derived.Deep.AppendLies
import Derived.Deep.Cut
import Derived.Deep.CutRange
import Derived.Deep.LoopGhost
import Derived.Deep.QuietTactic
import Derived.Deep.RegionHeld3
import Derived.Defers
import Derived.Ground.Names2Prog
import Derived.Laws.AppendOwnNone
import Derived.Laws.Bits64b
import Derived.Laws.Concat
import Derived.Laws.CopyOwn
import Derived.Laws.IdiomStrings
import Derived.Laws.ResultCell
import Derived.Lib.AppendStr
import Derived.Lib.AppendZeros
import Derived.Lib.AppendZerosOnto
import Derived.Lib.BitFns
import Derived.Lib.Hide
import Derived.Lib.ItoaMem
import Derived.Lib.ItoaNum
import Derived.Lib.Strings
import Derived.Maps.AppendAt
import Derived.OwnWalk
import Derived.Recover
import Derived.Shelf.Bits.Mul64
import Derived.Shelf.LaysM
import Derived.Shelf.Slices.SearchI
import Derived.Shelf.Small.Bits
import Derived.Shelf.Small.Wraps
import Derived.Shelf.Spec.BitsCarry
import Derived.Shelf.Spec.TrailingZeros
import Derived.Shelf.Strconv.Itoa0
import Derived.Shelf.Strconv.Itoa1
import Derived.Shelf.Strconv.Itoa2
import Derived.Shelf.Strconv.Itoa3
import Derived.Shelf.Strings.Builder1
import Derived.Shelf.Strings.BuilderF
import Derived.Shelf.Strings.BuilderK
import Derived.WalkKit
import Derived.WalkLawsBesides
import Derived.WalkSpells
import Derived.Test.YtfjnlopbmkimiaaGreatDoorS00Mem
import Derived.Test.YtfjnlopbmkimiaaGreatDoorShelf
import Derived.Test.YtfjnlopbmkimiaaGreatDoorS02ShiftI
import Derived.Test.YtfjnlopbmkimiaaGreatDoorS03GuessD
import Derived.Test.YtfjnlopbmkimiaaGreatDoorS04IntB
import Derived.Test.YtfjnlopbmkimiaaGreatDoorS05IntD
import Derived.Test.YtfjnlopbmkimiaaGreatDoorS06GcB
import Derived.Test.YtfjnlopbmkimiaaGreatDoorS07Rg
import Derived.Test.YtfjnlopbmkimiaaGreatDoorS08ZC
import Derived.Test.YtfjnlopbmkimiaaGreatDoorS09Bw
import Derived.Test.YtfjnlopbmkimiaaGreatDoorS10TxT
import Derived.Test.YtfjnlopbmkimiaaGreatDoorS11Xo
import Derived.Test.YtfjnlopbmkimiaaGreatDoorS12Xm
import Derived.Test.YtfjnlopbmkimiaaGreatDoorS17Dd
import Derived.Test.YtfjnlopbmkimiaaGreatDoorS18Jj
import Derived.Test.YtfjnlopbmkimiaaGreatDoorS19Kd
namespace Go.Proofs.YtfjnlopbmkimiaaGreatDoor
open Go.RowKit

set_option maxHeartbeats 400000 in
theorem stepK_storeC {ops : Array Oper} {o : Oper} {a : Act} {K : Act → World → Prop} {Q : Exit → Act → World → Prop} {E : Prop} {w : World} (hgd : o.guard = none) (hd : o.dst = none) (p x : Operand)
    (ho : o.op = .store 24 p x) (b : Nat) (qb bi : Int) (a' : Option Addr) (n' c' : Nat) (u0 u1 u2 : Value) (hp : a.eval p = .pointer (some ⟨b, 0, none⟩)) (hx : a.eval x = .agg #[.int .i64 qb, .int .i64 bi, .slice a' n' c'])
    (h0 : w.cell? ⟨b, 0, none⟩ = some u0) (h1 : w.cell? ⟨b, 1, none⟩ = some u1) (h2 : w.cell? ⟨b, 2, none⟩ = some u2) (f0 : w.frozen? ⟨b, 0, none⟩ = false) (f1 : w.frozen? ⟨b, 1, none⟩ = false) (f2 : w.frozen? ⟨b, 2, none⟩ = false)
    (h : K a (((w.setCell ⟨b, 0, none⟩ (.int .i64 qb)).setCell ⟨b, 1, none⟩ (.int .i64 bi)).setCell ⟨b, 2, none⟩ (.slice a' n' c'))) :
    if Region.wanted o (yielded ops a.tmps) = true then Oper.wp Tryz.prog o a w K Q else E := by
  have hw : Region.wanted o (yielded ops a.tmps) = true := by simp [Region.wanted, hgd]
  rw [if_pos hw]
  obtain ⟨od, oo, ot, opp, oa, og⟩ := o
  simp only at ho hd
  subst ho hd
  have HH := Lib.hid h
  clear h
  unfold Oper.wp execOp
  simp only [hp, hx]
  go_simp
  exact HH.out
set_option maxHeartbeats 400000 in
theorem stepK_storeF {ops : Array Oper} {o : Oper} {a : Act} {K : Act → World → Prop} {Q : Exit → Act → World → Prop} {E : Prop} {w : World} (hgd : o.guard = none) (hd : o.dst = none) (p x : Operand)
    (ho : o.op = .store 31 p x) (b : Nat) (s t : Int) (u0 u1 : Value) (hp : a.eval p = .pointer (some ⟨b, 0, none⟩)) (hx : a.eval x = .agg #[.int .i64 s, .int .i64 t])
    (h0 : w.cell? ⟨b, 0, none⟩ = some u0) (h1 : w.cell? ⟨b, 1, none⟩ = some u1) (f0 : w.frozen? ⟨b, 0, none⟩ = false) (f1 : w.frozen? ⟨b, 1, none⟩ = false)
    (h : K a ((w.setCell ⟨b, 0, none⟩ (.int .i64 s)).setCell ⟨b, 1, none⟩ (.int .i64 t))) :
    if Region.wanted o (yielded ops a.tmps) = true then Oper.wp Tryz.prog o a w K Q else E := by
  have hw : Region.wanted o (yielded ops a.tmps) = true := by simp [Region.wanted, hgd]
  rw [if_pos hw]
  obtain ⟨od, oo, ot, opp, oa, og⟩ := o
  simp only at ho hd
  subst ho hd
  have HH := Lib.hid h
  clear h
  unfold Oper.wp execOp
  simp only [hp, hx]
  go_simp
  exact HH.out

set_option maxHeartbeats 8000000 in
set_option maxRecDepth 100000 in
theorem Then_any (a b : Gci) (ao : Option Addr) (n cp : Nat) (bo : Option Addr) (m cq : Nat) (w : World) (hA : OpsAt w ao n a.ops) (hB : OpsAt w bo m b.ops) (hn : n ≤ cp) (hcp : cp ≤ 9223372036854775807) (hm : m ≤ cq) (hcq : cq ≤ 9223372036854775807) (hna : ao = none → cp = 0) (hnb : bo = none → cq = 0) (hS : Shp w) :
    Calls Tryz.prog 18 #[.agg #[.int .i64 a.qubits, .int .i64 a.bits, .slice ao n cp], .agg #[.int .i64 b.qubits, .int .i64 b.bits, .slice bo m cq]] w fun e w' => (((thnF a b).1 ≠ 0 ∧ e = .returned (.tuple #[.agg #[.int .i64 0, .int .i64 0, .slice none 0 0], .agg #[.int .i64 (thnF a b).1, .int .i64 (thnF a b).2]])) ∨
      ((thnF a b).1 = 0 ∧ ∃ (a' : Option Addr) (c' : Nat), e = .returned (.tuple #[.agg #[.int .i64 a.qubits, .int .i64 a.bits, .slice a' (n + m) c'], .agg #[.int .i64 0, .int .i64 0]]) ∧ OpsN w' w.heap.size (.slice a' (n + m) c') (a.ops ++ b.ops))) ∧ Ext w w' := by
  obtain ⟨qa, ba, opsA⟩ := a
  obtain ⟨qb, bb, opsB⟩ := b
  simp only at hA hB ⊢
  have hlA : opsA.length = n := hA.1
  have hlB : opsB.length = m := hB.1
  obtain ⟨H, hH⟩ : ∃ H, w.heap.size = H := ⟨_, rfl⟩
  obtain ⟨A1, hA1⟩ : ∃ A1, w.alloc (.cells #[.int .i64 qa, .int .i64 ba, .slice ao n cp] 24) = A1 := ⟨_, rfl⟩
  obtain ⟨A2, hA2⟩ : ∃ A2, A1.alloc (.cells #[.int .i64 qb, .int .i64 bb, .slice bo m cq] 24) = A2 := ⟨_, rfl⟩
  obtain ⟨A3, hA3⟩ : ∃ A3, A2.alloc (.cells #[.int .i64 0, .int .i64 0, .slice none 0 0] 24) = A3 := ⟨_, rfl⟩
  obtain ⟨A4, hA4⟩ : ∃ A4, A3.alloc (.cells #[.int .i64 0, .int .i64 0] 31) = A4 := ⟨_, rfl⟩
  have s1 : A1.heap.size = H + 1 := by rw [← hA1, ← hH]; simp
  have s2 : A2.heap.size = H + 2 := by rw [← hA2]; simp; omega
  have s3 : A3.heap.size = H + 3 := by rw [← hA3]; simp; omega
  have s4 : A4.heap.size = H + 4 := by rw [← hA4]; simp; omega
  have x1 : Ext w A1 := by rw [← hA1]; exact ext_al _ _
  have x2 : Ext A1 A2 := by rw [← hA2]; exact ext_al _ _
  have x3 : Ext A2 A3 := by rw [← hA3]; exact ext_al _ _
  have x4 : Ext A3 A4 := by rw [← hA4]; exact ext_al _ _
  have bA : CiB A4 H qa ba ao n cp := by
    have : CiB A1 H qa ba ao n cp := by rw [← hA1, ← hH]; exact ⟨heap_alloc_new w _⟩
    exact ((this.ext x2).ext x3).ext x4
  have bB : CiB A4 (H + 1) qb bb bo m cq := by
    have : CiB A2 (H + 1) qb bb bo m cq := by rw [← hA2, ← s1]; exact ⟨heap_alloc_new A1 _⟩
    exact (this.ext x3).ext x4
  have bR : CiB A4 (H + 2) 0 0 none 0 0 := by
    have : CiB A3 (H + 2) 0 0 none 0 0 := by rw [← hA3, ← s2]; exact ⟨heap_alloc_new A2 _⟩
    exact this.ext x4
  have bF : FtB A4 (H + 3) 0 0 := by rw [← hA4, ← s3]; exact ⟨heap_alloc_new A3 _⟩
  have E0 : Ext w A4 := ((x1.trans x2).trans x3).trans x4
  have hAA : (((w.alloc (.cells #[.int .i64 qa, .int .i64 ba, .slice ao n cp] 24)).alloc (.cells #[.int .i64 qb, .int .i64 bb, .slice bo m cq] 24)).alloc (.cells #[.int .i64 0, .int .i64 0, .slice none 0 0] 24)).alloc (.cells #[.int .i64 0, .int .i64 0] 31) = A4 := by rw [hA1, hA2, hA3, hA4]
  have m0 := bA.x0; have m1 := bA.x1; have m2 := bA.x2
  rw [← hAA] at m0 m1 m2
  have HAA := Lib.hid hAA; have HE0 := Lib.hid E0; have HbA0 := Lib.hid bA; have HbB0 := Lib.hid bB; have HbR0 := Lib.hid bR; have HbF0 := Lib.hid bF; have Hs4 := Lib.hid s4; have HhH := Lib.hid hH
  have HKa := Lib.hid (fun wx (hx : Ext w wx) => Check_any ⟨qa, ba, opsA⟩ ao n cp wx (hA.ext hx) hn hcp (hS.ext hx))
  have HKb := Lib.hid (fun wx (hx : Ext w wx) => Check_any ⟨qb, bb, opsB⟩ bo m cq wx (hB.ext hx) hm hcq (hS.ext hx))
  simp only at HKa HKb
  have HlA := Lib.hid hlA; have HlB := Lib.hid hlB; have HopA := Lib.hid hA; have HopB := Lib.hid hB
  obtain ⟨FA, hFA⟩ : ∃ F, chk ⟨qa, ba, opsA⟩ = F := ⟨_, rfl⟩
  obtain ⟨FB, hFB⟩ : ∃ F, chk ⟨qb, bb, opsB⟩ = F := ⟨_, rfl⟩
  have hzA : FA.1 = 0 → FA.2 = 0 := fun h => by rw [← hFA] at h ⊢; rw [(chk_zero h).1]
  have hzB : FB.1 = 0 → FB.2 = 0 := fun h => by rw [← hFB] at h ⊢; rw [(chk_zero h).1]
  have hbA : FA.1 = 0 → n ≤ 4096 ∧ ∀ g ∈ opsA, g.ctl.length ≤ 1000 ∧ g.cnd.length ≤ 1000 := fun h => by
    rw [← hFA] at h
    obtain ⟨_, h1, h2, h3, h4, h5, h6⟩ := chk_zero h
    simp only at h1 h2 h3 h4 h5 h6
    refine ⟨by omega, fun g hg => ?_⟩
    have f := prFit_of_code h2 h3 h4 (h6 g hg)
    exact ⟨Nat.le_trans f.few (by decide), Nat.le_trans f.cfew (by decide)⟩
  have hbB : FB.1 = 0 → m ≤ 4096 ∧ ∀ g ∈ opsB, g.ctl.length ≤ 1000 ∧ g.cnd.length ≤ 1000 := fun h => by
    rw [← hFB] at h
    obtain ⟨_, h1, h2, h3, h4, h5, h6⟩ := chk_zero h
    simp only at h1 h2 h3 h4 h5 h6
    refine ⟨by omega, fun g hg => ?_⟩
    have f := prFit_of_code h2 h3 h4 (h6 g hg)
    exact ⟨Nat.le_trans f.few (by decide), Nat.le_trans f.cfew (by decide)⟩
  have hTd : thnF ⟨qa, ba, opsA⟩ ⟨qb, bb, opsB⟩ = if FA.1 ≠ 0 then FA else if FB.1 ≠ 0 then FB else if qa ≠ qb ∨ ba ≠ bb then (16, 0) else if 4096 < n + m then (2, 0) else (0, 0) := by
    unfold thnF
    rw [hFA, hFB]
    simp only [hlA, hlB]
  rw [hFA] at HKa
  rw [hFB] at HKb
  obtain ⟨ua, va⟩ := FA
  obtain ⟨ub, vb⟩ := FB
  simp only at hTd HKa HKb hzA hzB hbA hbB
  have HTd := Lib.hid hTd; have HzA := Lib.hid hzA; have HzB := Lib.hid hzB; have HbA' := Lib.hid hbA; have HbB' := Lib.hid hbB; have Hna := Lib.hid hna; have Hnb := Lib.hid hnb
  have k0 := bB.x0; have k1 := bB.x1; have k2 := bB.x2
  rw [← hAA] at k0 k1 k2
  have HRow := Lib.hid (show ∀ j u, ([.int .i64 qa, .int .i64 ba, .slice ao n cp, .int .i64 qb, .int .i64 bb, .slice bo m cq] : List Value)[j]? = some u → (A4.alloc (.cells #[.int .i64 qa, .int .i64 ba, .slice ao n cp, .int .i64 qb, .int .i64 bb, .slice bo m cq] 24)).cell? ⟨A4.heap.size, j, none⟩ = some u from fun j u hu => by
    rw [cell_of_row _ _ j _ _ (0, 0) (heap_alloc_new A4 _)]
    simpa using hu)
  have Er := ext_al A4 (.cells #[.int .i64 qa, .int .i64 ba, .slice ao n cp, .int .i64 qb, .int .i64 bb, .slice bo m cq] 24)
  have HA0 := Lib.hid (bA.ext Er); have HB0 := Lib.hid (bB.ext Er); have HR0 := Lib.hid (bR.ext Er); have HF0 := Lib.hid (bF.ext Er); have HEW := Lib.hid (E0.trans Er)
  have HsW := Lib.hid (show (A4.alloc (.cells #[.int .i64 qa, .int .i64 ba, .slice ao n cp, .int .i64 qb, .int .i64 bb, .slice bo m cq] 24)).heap.size = H + 5 by simp; omega)
  clear hTd hFA hFB hzA hzB hbA hbB hna hnb Er
  clear hA hB E0 bA bB bR bF x1 x2 x3 x4 s1 s2 s3 hA1 hA2 hA3 hA4 hAA hlA hlB hS HE0 HbA0 HbB0 HbR0 HbF0
  go_enter Tryz.func18, Tryz.ntmps18
  go_wp2_with fail
  rw [HAA.out]
  rw [s4] at HRow
  clear m0 m1 m2 k0 k1 k2 s4
  generalize A4.alloc (.cells #[.int .i64 qa, .int .i64 ba, .slice ao n cp, .int .i64 qb, .int .i64 bb, .slice bo m cq] 24) = W0 at *
  have HE0 := HEW
  have hrow : ∀ wx, Ext W0 wx → ∀ j u, ([.int .i64 qa, .int .i64 ba, .slice ao n cp, .int .i64 qb, .int .i64 bb, .slice bo m cq] : List Value)[j]? = some u → wx.cell? ⟨H + 4, j, none⟩ = some u := fun wx hx j u hu => cell_ext (HRow.out j u hu) hx
  go_loopg [7, 8, 13] 2 (fun kk s7 s8 s13 wx => ∃ i : Nat, s13 = .int .i64 (i : Int) ∧ i ≤ 2 ∧ 2 - i = kk ∧ Ext W0 wx ∧ (1 ≤ i → ua = 0) ∧ (2 ≤ i → ub = 0))
  case atStart => exact ⟨0, rfl, by omega, by omega, Ext.refl _, fun h => by omega, fun h => by omega⟩
  case round =>
    obtain ⟨i, rfl, hi2, hk, hX, hz1, hz2⟩ := hrel
    by_cases hi : i = 2
    rotate_left 1
    rcases (show i = 0 ∨ i = 1 by omega) with h4 | h4
    · subst h4
      have bc : CiB (wr.alloc (.cells #[.int .i64 qa, .int .i64 ba, .slice ao n cp] 24)) wr.heap.size qa ba ao n cp := ⟨heap_alloc_new wr _⟩
      have Ec := ext_al wr (.cells #[.int .i64 qa, .int .i64 ba, .slice ao n cp] 24)
      have c0 := bc.x0; have c1 := bc.x1; have c2 := bc.x2
      have HXc := Lib.hid (hX.trans Ec)
      have hr := hrow wr hX
      have d0 := hr 0 (.int .i64 qa) rfl; have d1 := hr 1 (.int .i64 ba) rfl; have d2 := hr 2 (.slice ao n cp) rfl
      clear hr hX Ec bc
      go_wp2_with fail
      generalize wr.alloc (.cells #[.int .i64 qa, .int .i64 ba, .slice ao n cp] 24) = V1 at *
      refine (HKa.out V1 (HE0.out.trans HXc.out)).mono ?_
      rintro e w4 ⟨rfl, hx4⟩
      clear c0 c1 c2 d0 d1 d2
      have Ef := ext_al w4 (.cells #[.int .i64 ua, .int .i64 va] 31)
      have hX5 := (HXc.out.trans hx4).trans Ef
      have bf : FtB (w4.alloc (.cells #[.int .i64 ua, .int .i64 va] 31)) w4.heap.size ua va := ⟨heap_alloc_new w4 _⟩
      have d0 := bf.x0; have d1 := bf.x1
      have HX5 := Lib.hid hX5; have Hsz := Lib.hid (show H + 4 < w4.heap.size by have h1 := (HXc.out.trans hx4).size; have h2 := HsW.out; omega)
      clear hx4 Ef hX5 bf HXc
      by_cases hu : ua = 0
      rotate_left 1
      · have nu := nt hu
        have HTn := Lib.hid (show (thnF ⟨qa, ba, opsA⟩ ⟨qb, bb, opsB⟩).1 ≠ 0 by rw [HTd.out]; rw [if_pos hu]; exact hu)
        have HT := Lib.hid (show thnF ⟨qa, ba, opsA⟩ ⟨qb, bb, opsB⟩ = (ua, va) by rw [HTd.out]; rw [if_pos hu])
        have HbR := Lib.hid (HR0.out.ext HX5.out); have HbF := Lib.hid (HF0.out.ext HX5.out); have HbE := Lib.hid (HE0.out.trans HX5.out)
        have n1 : w4.heap.size ≠ H + 2 := by have := Hsz.out; omega
        have n2 : w4.heap.size ≠ H + 3 := by have := Hsz.out; omega
        clear hu
        go_upto_region 5 with fail
        generalize w4.alloc (.cells #[.int .i64 ua, .int .i64 va] 31) = V2 at *
        obtain ⟨Fb, hFb⟩ : ∃ y, w4.heap.size = y := ⟨_, rfl⟩
        rw [hFb] at n1 n2 d0 d1 ⊢
        clear hFb
        have r0 := HbR.out.x0; have r1 := HbR.out.x1; have r2 := HbR.out.x2; have g0 := HbR.out.f 0; have g1 := HbR.out.f 1; have g2 := HbR.out.f 2
        have f0 := HbF.out.x0; have f1 := HbF.out.x1; have k0 := HbF.out.f 0; have k1 := HbF.out.f 1
        have zC := (putCF_C HbR.out (show H + 2 ≠ H + 3 by omega) 0 0 none 0 0 ua va).drew
        have zF := (putCF_F HbF.out (show H + 2 ≠ H + 3 by omega) 0 0 none 0 0 ua va).drew
        have zE : Ext w (putCF V2 (H + 2) (H + 3) 0 0 none 0 0 ua va).drew := Below.drew (putCF_ext HbE.out (show w.heap.size ≤ H + 2 by omega) (show w.heap.size ≤ H + 3 by omega) _ _ _ _ _ _ _)
        obtain ⟨Wz, hWz⟩ : ∃ Wz, putCF V2 (H + 2) (H + 3) 0 0 none 0 0 ua va = Wz := ⟨_, rfl⟩
        rw [hWz] at zC zF zE
        unfold putCF at hWz
        have HWz := Lib.hid hWz; have HzE := Lib.hid zE
        have v0 := zC.x0; have v1 := zC.x1; have v2 := zC.x2; have v3 := zF.x0; have v4 := zF.x1
        clear zC zF zE hWz
        go_upto_region 6 with fail
        go_region
        go_wp2_with fail
        rw [HWz.out]
        exact bodyPost_ret (v := .tuple #[.agg #[.int .i64 0, .int .i64 0, .slice none 0 0], .agg #[.int .i64 ua, .int .i64 va]]) (by simp [results, Tryz.results18, go_sem, v0, v1, v2, v3, v4]) rfl ⟨Or.inl ⟨HTn.out, by rw [HT.out]⟩, HzE.out⟩
      · have nu := nf' hu
        have Hu := Lib.hid hu
        clear hu
        go_wp2_with fail
        go_roundg (2 - 1)
        case measure => omega
        case rel => exact ⟨1, by go_num, by omega, rfl, HX5.out, fun _ => Hu.out, fun h => by omega⟩
    · subst h4
      have hua := hz1 (by omega)
      have Hua := Lib.hid hua
      clear hua hz1 hz2
      have bc : CiB (wr.alloc (.cells #[.int .i64 qb, .int .i64 bb, .slice bo m cq] 24)) wr.heap.size qb bb bo m cq := ⟨heap_alloc_new wr _⟩
      have Ec := ext_al wr (.cells #[.int .i64 qb, .int .i64 bb, .slice bo m cq] 24)
      have c0 := bc.x0; have c1 := bc.x1; have c2 := bc.x2
      have HXc := Lib.hid (hX.trans Ec)
      have hr := hrow wr hX
      have d0 := hr 3 (.int .i64 qb) rfl; have d1 := hr 4 (.int .i64 bb) rfl; have d2 := hr 5 (.slice bo m cq) rfl
      clear hr hX Ec bc
      go_wp2_with fail
      generalize wr.alloc (.cells #[.int .i64 qb, .int .i64 bb, .slice bo m cq] 24) = V1 at *
      refine (HKb.out V1 (HE0.out.trans HXc.out)).mono ?_
      rintro e w4 ⟨rfl, hx4⟩
      clear c0 c1 c2 d0 d1 d2
      have Ef := ext_al w4 (.cells #[.int .i64 ub, .int .i64 vb] 31)
      have hX5 := (HXc.out.trans hx4).trans Ef
      have bf : FtB (w4.alloc (.cells #[.int .i64 ub, .int .i64 vb] 31)) w4.heap.size ub vb := ⟨heap_alloc_new w4 _⟩
      have d0 := bf.x0; have d1 := bf.x1
      have HX5 := Lib.hid hX5; have Hsz := Lib.hid (show H + 4 < w4.heap.size by have h1 := (HXc.out.trans hx4).size; have h2 := HsW.out; omega)
      clear hx4 Ef hX5 bf HXc
      by_cases hu : ub = 0
      rotate_left 1
      · have nu := nt hu
        have HTn := Lib.hid (show (thnF ⟨qa, ba, opsA⟩ ⟨qb, bb, opsB⟩).1 ≠ 0 by rw [HTd.out]; rw [if_neg (by rw [Hua.out]; simp), if_pos hu]; exact hu)
        have HT := Lib.hid (show thnF ⟨qa, ba, opsA⟩ ⟨qb, bb, opsB⟩ = (ub, vb) by rw [HTd.out]; rw [if_neg (by rw [Hua.out]; simp), if_pos hu])
        have HbR := Lib.hid (HR0.out.ext HX5.out); have HbF := Lib.hid (HF0.out.ext HX5.out); have HbE := Lib.hid (HE0.out.trans HX5.out)
        have n1 : w4.heap.size ≠ H + 2 := by have := Hsz.out; omega
        have n2 : w4.heap.size ≠ H + 3 := by have := Hsz.out; omega
        clear hu
        go_upto_region 5 with fail
        generalize w4.alloc (.cells #[.int .i64 ub, .int .i64 vb] 31) = V2 at *
        obtain ⟨Fb, hFb⟩ : ∃ y, w4.heap.size = y := ⟨_, rfl⟩
        rw [hFb] at n1 n2 d0 d1 ⊢
        clear hFb
        have r0 := HbR.out.x0; have r1 := HbR.out.x1; have r2 := HbR.out.x2; have g0 := HbR.out.f 0; have g1 := HbR.out.f 1; have g2 := HbR.out.f 2
        have f0 := HbF.out.x0; have f1 := HbF.out.x1; have k0 := HbF.out.f 0; have k1 := HbF.out.f 1
        have zC := (putCF_C HbR.out (show H + 2 ≠ H + 3 by omega) 0 0 none 0 0 ub vb).drew
        have zF := (putCF_F HbF.out (show H + 2 ≠ H + 3 by omega) 0 0 none 0 0 ub vb).drew
        have zE : Ext w (putCF V2 (H + 2) (H + 3) 0 0 none 0 0 ub vb).drew := Below.drew (putCF_ext HbE.out (show w.heap.size ≤ H + 2 by omega) (show w.heap.size ≤ H + 3 by omega) _ _ _ _ _ _ _)
        obtain ⟨Wz, hWz⟩ : ∃ Wz, putCF V2 (H + 2) (H + 3) 0 0 none 0 0 ub vb = Wz := ⟨_, rfl⟩
        rw [hWz] at zC zF zE
        unfold putCF at hWz
        have HWz := Lib.hid hWz; have HzE := Lib.hid zE
        have v0 := zC.x0; have v1 := zC.x1; have v2 := zC.x2; have v3 := zF.x0; have v4 := zF.x1
        clear zC zF zE hWz
        go_upto_region 6 with fail
        go_region
        go_wp2_with fail
        rw [HWz.out]
        exact bodyPost_ret (v := .tuple #[.agg #[.int .i64 0, .int .i64 0, .slice none 0 0], .agg #[.int .i64 ub, .int .i64 vb]]) (by simp [results, Tryz.results18, go_sem, v0, v1, v2, v3, v4]) rfl ⟨Or.inl ⟨HTn.out, by rw [HT.out]⟩, HzE.out⟩
      · have nu := nf' hu
        have Hu := Lib.hid hu
        clear hu
        go_wp2_with fail
        go_roundg (2 - 2)
        case measure => omega
        case rel => exact ⟨2, by go_num, by omega, rfl, HX5.out, fun _ => Hua.out, fun _ => Hu.out⟩
    subst hi
    have hua := hz1 (by omega); have hub := hz2 (by omega)
    have hva := HzA.out hua; have hvb := HzB.out hub
    have hTd := HTd.out
    rw [if_neg (by rw [hua]; simp), if_neg (by rw [hub]; simp)] at hTd
    obtain ⟨hn4, hfA⟩ := HbA'.out hua
    obtain ⟨hm4, hfB⟩ := HbB'.out hub
    have HA1 := Lib.hid (HA0.out.ext hX); have HB1 := Lib.hid (HB0.out.ext hX); have HbR := Lib.hid (HR0.out.ext hX); have HbF := Lib.hid (HF0.out.ext hX); have HbE := Lib.hid (HE0.out.trans hX)
    have HfA := Lib.hid hfA; have HfB := Lib.hid hfB
    have HsX := Lib.hid (show H + 5 ≤ wr.heap.size by rw [← HsW.out]; exact hX.size)
    have l0 := HA1.out.x0; have l1 := HA1.out.x1; have l2 := HA1.out.x2; have j0 := HB1.out.x0; have j1 := HB1.out.x1; have j2 := HB1.out.x2
    clear hX hz1 hz2 hfA hfB hua hub hva hvb HKa HKb hrow
    by_cases hq : qa = qb
    rotate_left 1
    · have hq1 := nt' hq; have hq2 := bf' hq
      rw [if_pos (Or.inl hq)] at hTd
      have HT := Lib.hid hTd; have HTn := Lib.hid (show (thnF ⟨qa, ba, opsA⟩ ⟨qb, bb, opsB⟩).1 ≠ 0 by rw [hTd]; decide)
      clear hq hTd
      have r0 := HbR.out.x0; have r1 := HbR.out.x1; have r2 := HbR.out.x2; have g0 := HbR.out.f 0; have g1 := HbR.out.f 1; have g2 := HbR.out.f 2
      have f0 := HbF.out.x0; have f1 := HbF.out.x1; have k0 := HbF.out.f 0; have k1 := HbF.out.f 1
      have zC := (putCF_C HbR.out (show H + 2 ≠ H + 3 by omega) 0 0 none 0 0 16 0)
      have zF := (putCF_F HbF.out (show H + 2 ≠ H + 3 by omega) 0 0 none 0 0 16 0)
      have zE : Ext w (putCF wr (H + 2) (H + 3) 0 0 none 0 0 16 0) := (putCF_ext HbE.out (show w.heap.size ≤ H + 2 by omega) (show w.heap.size ≤ H + 3 by omega) _ _ _ _ _ _ _)
      obtain ⟨Wz, hWz⟩ : ∃ Wz, putCF wr (H + 2) (H + 3) 0 0 none 0 0 16 0 = Wz := ⟨_, rfl⟩
      rw [hWz] at zC zF zE
      unfold putCF at hWz
      have HWz := Lib.hid hWz; have HzE := Lib.hid zE
      have v0 := zC.x0; have v1 := zC.x1; have v2 := zC.x2; have v3 := zF.x0; have v4 := zF.x1
      clear zC zF zE hWz
      go_wp2_with fail
      rw [HWz.out]
      exact bodyPost_ret (v := .tuple #[.agg #[.int .i64 0, .int .i64 0, .slice none 0 0], .agg #[.int .i64 16, .int .i64 0]]) (by simp [results, Tryz.results18, go_sem, v0, v1, v2, v3, v4]) rfl ⟨Or.inl ⟨HTn.out, by rw [HT.out]⟩, HzE.out⟩
    by_cases hb : ba = bb
    rotate_left 1
    · have hb1 := nt' hb; have hb2 := bf' hb
      have hq1 := ne_f hq; have hq2 := eq_t hq
      rw [if_pos (Or.inr hb)] at hTd
      have HT := Lib.hid hTd; have HTn := Lib.hid (show (thnF ⟨qa, ba, opsA⟩ ⟨qb, bb, opsB⟩).1 ≠ 0 by rw [hTd]; decide)
      clear hq hb hTd
      have r0 := HbR.out.x0; have r1 := HbR.out.x1; have r2 := HbR.out.x2; have g0 := HbR.out.f 0; have g1 := HbR.out.f 1; have g2 := HbR.out.f 2
      have f0 := HbF.out.x0; have f1 := HbF.out.x1; have k0 := HbF.out.f 0; have k1 := HbF.out.f 1
      have zC := (putCF_C HbR.out (show H + 2 ≠ H + 3 by omega) 0 0 none 0 0 16 0)
      have zF := (putCF_F HbF.out (show H + 2 ≠ H + 3 by omega) 0 0 none 0 0 16 0)
      have zE : Ext w (putCF wr (H + 2) (H + 3) 0 0 none 0 0 16 0) := (putCF_ext HbE.out (show w.heap.size ≤ H + 2 by omega) (show w.heap.size ≤ H + 3 by omega) _ _ _ _ _ _ _)
      obtain ⟨Wz, hWz⟩ : ∃ Wz, putCF wr (H + 2) (H + 3) 0 0 none 0 0 16 0 = Wz := ⟨_, rfl⟩
      rw [hWz] at zC zF zE
      unfold putCF at hWz
      have HWz := Lib.hid hWz; have HzE := Lib.hid zE
      have v0 := zC.x0; have v1 := zC.x1; have v2 := zC.x2; have v3 := zF.x0; have v4 := zF.x1
      clear zC zF zE hWz
      go_wp2_with fail
      rw [HWz.out]
      exact bodyPost_ret (v := .tuple #[.agg #[.int .i64 0, .int .i64 0, .slice none 0 0], .agg #[.int .i64 16, .int .i64 0]]) (by simp [results, Tryz.results18, go_sem, v0, v1, v2, v3, v4]) rfl ⟨Or.inl ⟨HTn.out, by rw [HT.out]⟩, HzE.out⟩
    rw [if_neg (by simp [hq, hb])] at hTd
    have hb1 := ne_f hb; have hb2 := eq_t hb; have hq1 := ne_f hq; have hq2 := eq_t hq
    clear hq hb
    have wl : IntKind.i64.wrap ((n : Int) + (m : Int)) = ((n + m : Nat) : Int) := by rw [IntKind.wrap_i64]; omega
    by_cases hlong : 4096 < n + m
    · have p9 : (4096 : Int) < ((n + m : Nat) : Int) := by omega
      have p9' : decide ((4096 : Int) < ((n + m : Nat) : Int)) = true := dt p9
      obtain ⟨nm, hnm⟩ : ∃ y : Int, ((n + m : Nat) : Int) = y := ⟨_, rfl⟩
      rw [hnm] at wl p9 p9'
      rw [if_pos hlong] at hTd
      have HT := Lib.hid hTd; have HTn := Lib.hid (show (thnF ⟨qa, ba, opsA⟩ ⟨qb, bb, opsB⟩).1 ≠ 0 by rw [hTd]; decide)
      clear hTd hnm hlong
      have r0 := HbR.out.x0; have r1 := HbR.out.x1; have r2 := HbR.out.x2; have g0 := HbR.out.f 0; have g1 := HbR.out.f 1; have g2 := HbR.out.f 2
      have f0 := HbF.out.x0; have f1 := HbF.out.x1; have k0 := HbF.out.f 0; have k1 := HbF.out.f 1
      have zC := (putCF_C HbR.out (show H + 2 ≠ H + 3 by omega) 0 0 none 0 0 2 0)
      have zF := (putCF_F HbF.out (show H + 2 ≠ H + 3 by omega) 0 0 none 0 0 2 0)
      have zE : Ext w (putCF wr (H + 2) (H + 3) 0 0 none 0 0 2 0) := (putCF_ext HbE.out (show w.heap.size ≤ H + 2 by omega) (show w.heap.size ≤ H + 3 by omega) _ _ _ _ _ _ _)
      obtain ⟨Wz, hWz⟩ : ∃ Wz, putCF wr (H + 2) (H + 3) 0 0 none 0 0 2 0 = Wz := ⟨_, rfl⟩
      rw [hWz] at zC zF zE
      unfold putCF at hWz
      have HWz := Lib.hid hWz; have HzE := Lib.hid zE
      have v0 := zC.x0; have v1 := zC.x1; have v2 := zC.x2; have v3 := zF.x0; have v4 := zF.x1
      clear zC zF zE hWz
      go_wp2_with fail
      rw [HWz.out]
      exact bodyPost_ret (v := .tuple #[.agg #[.int .i64 0, .int .i64 0, .slice none 0 0], .agg #[.int .i64 2, .int .i64 0]]) (by simp [results, Tryz.results18, go_sem, v0, v1, v2, v3, v4]) rfl ⟨Or.inl ⟨HTn.out, by rw [HT.out]⟩, HzE.out⟩
    have p9 : ¬ (4096 : Int) < ((n + m : Nat) : Int) := by omega
    have p9' : decide ((4096 : Int) < ((n + m : Nat) : Int)) = false := df p9
    obtain ⟨nmi, hnm⟩ : ∃ y : Int, ((n + m : Nat) : Int) = y := ⟨_, rfl⟩
    rw [hnm] at wl p9 p9'
    rw [if_neg hlong] at hTd
    have HTz := Lib.hid (show (thnF ⟨qa, ba, opsA⟩ ⟨qb, bb, opsB⟩).1 = 0 by rw [hTd])
    have HopA1 := Lib.hid (HopA.out.ext HbE.out); have HopB1 := Lib.hid (HopB.out.ext HbE.out)
    clear hTd hnm
    go_upto_region 12 with fail
    clear hb1 hb2 hq1 hq2 wl p9 p9'
    have hd0 : Ext wr wr.drew := Below.drew (Ext.refl _)
    refine wp_region_K 10 (fun w' => (w'.cell? ⟨H, 0, none⟩ = some (.int .i64 qa) ∧ w'.cell? ⟨H, 1, none⟩ = some (.int .i64 ba) ∧ w'.cell? ⟨H, 2, none⟩ = some (.slice ao n cp)) ∧ w'.cell? ⟨H + 1, 2, none⟩ = some (.slice bo m cq)) (by kernel_rfl) ?_
    show anyK _ _ _ _ _ _ 11 #[false, false, false, false, false, false, false, false, false, false, false] _ _
    have hHeld : (wr.drew.cell? ⟨H, 0, none⟩ = some (.int .i64 qa) ∧ wr.drew.cell? ⟨H, 1, none⟩ = some (.int .i64 ba) ∧ wr.drew.cell? ⟨H, 2, none⟩ = some (.slice ao n cp)) ∧ wr.drew.cell? ⟨H + 1, 2, none⟩ = some (.slice bo m cq) := ⟨⟨l0, l1, l2⟩, j2⟩
    refine anyK_take (i := 0) (v := ?_) rfl (by kernel_rfl) (by kernel_rfl) (by kernel_rfl) (N := 11) (by kernel_rfl) (by kernel_rfl) (by kernel_rfl) (fun _ _ _ h => h) (Or.inl ⟨by rfl, ?_⟩) hHeld ?_
    rotate_left 1
    · intro w hSw
      go_simp
      try with_reducible rfl
    show anyK _ _ _ _ _ _ _ _ (Act.put _ (some 51) _) _
    simp only [Act.put, List.setIfInBounds_toArray, List.set_cons_zero, List.set_cons_succ]
    refine anyK_take (i := 1) (v := ?_) rfl (by kernel_rfl) (by kernel_rfl) (by kernel_rfl) (N := 11) (by kernel_rfl) (by kernel_rfl) (by kernel_rfl) (fun _ _ _ h => h) (Or.inl ⟨by rfl, ?_⟩) hHeld ?_
    rotate_left 1
    · intro w hSw
      go_simp
      try with_reducible rfl
    show anyK _ _ _ _ _ _ _ _ (Act.put _ (some 52) _) _
    simp only [Act.put, List.setIfInBounds_toArray, List.set_cons_zero, List.set_cons_succ]
    refine anyK_take (i := 2) (v := ?_) rfl (by kernel_rfl) (by kernel_rfl) (by kernel_rfl) (N := 11) (by kernel_rfl) (by kernel_rfl) (by kernel_rfl) (fun _ _ _ h => h) (Or.inl ⟨by rfl, ?_⟩) hHeld ?_
    rotate_left 1
    · intro w hSw
      go_simp
      try with_reducible rfl
    show anyK _ _ _ _ _ _ _ _ (Act.put _ (some 53) _) _
    simp only [Act.put, List.setIfInBounds_toArray, List.set_cons_zero, List.set_cons_succ]
    refine anyK_take (i := 3) (v := ?_) rfl (by kernel_rfl) (by kernel_rfl) (by kernel_rfl) (N := 11) (by kernel_rfl) (by kernel_rfl) (by kernel_rfl) (fun _ _ _ h => h) (Or.inl ⟨by rfl, ?_⟩) hHeld ?_
    rotate_left 1
    · intro w hSw
      go_simp
      try with_reducible rfl
    show anyK _ _ _ _ _ _ _ _ (Act.put _ (some 54) _) _
    simp only [Act.put, List.setIfInBounds_toArray, List.set_cons_zero, List.set_cons_succ]
    refine anyK_take (i := 4) (v := ?_) rfl (by kernel_rfl) (by kernel_rfl) (by kernel_rfl) (N := 11) (by kernel_rfl) (by kernel_rfl) (by kernel_rfl) (fun _ _ _ h => h) (Or.inl ⟨by rfl, ?_⟩) hHeld ?_
    rotate_left 1
    · intro w hSw
      go_simp
      try with_reducible rfl
    show anyK _ _ _ _ _ _ _ _ (Act.put _ (some 55) _) _
    simp only [Act.put, List.setIfInBounds_toArray, List.set_cons_zero, List.set_cons_succ]
    refine anyK_take (i := 8) (v := ?_) rfl (by kernel_rfl) (by kernel_rfl) (by kernel_rfl) (N := 11) (by kernel_rfl) (by kernel_rfl) (by kernel_rfl) (fun _ _ _ h => h) (Or.inl ⟨by rfl, ?_⟩) hHeld ?_
    rotate_left 1
    · intro w hSw
      go_simp
      try with_reducible rfl
    show anyK _ _ _ _ _ _ _ _ (Act.put _ (some 59) _) _
    simp only [Act.put, List.setIfInBounds_toArray, List.set_cons_zero, List.set_cons_succ]
    clear hHeld
    have Es := ext_al wr.drew (.cells #[.slice ao n cp, .slice bo m cq] 22)
    have hx5 := hd0.trans Es
    refine anyK_one (i := 5) (by kernel_rfl) rfl (fun Kk hKk => ?_)
    go_wp2_with fail
    refine hKk.out _ _ (fun _ => ⟨⟨cell_ext l0 hx5, cell_ext l1 hx5, cell_ext l2 hx5⟩, cell_ext j2 hx5⟩) ?_
    clear hKk Kk
    simp only [List.setIfInBounds_toArray, List.set_cons_zero, List.set_cons_succ]
    have t0 : (wr.drew.alloc (.cells #[.slice ao n cp, .slice bo m cq] 22)).cell? ⟨wr.drew.heap.size, 0, none⟩ = some (.slice ao n cp) := by rw [cell_of_row _ _ 0 _ _ (0, 0) (heap_alloc_new wr.drew _)]; rfl
    have t1 : (wr.drew.alloc (.cells #[.slice ao n cp, .slice bo m cq] 22)).cell? ⟨wr.drew.heap.size, 1, none⟩ = some (.slice bo m cq) := by rw [cell_of_row _ _ 1 _ _ (0, 0) (heap_alloc_new wr.drew _)]; rfl
    have HCc := Lib.hid (concat_any wr.drew.heap.size ao n cp bo m cq opsA opsB _ (HopA1.out.ext hx5) (HopB1.out.ext hx5) Hna.out Hnb.out hn4 hm4 t0 t1)
    refine anyK_one (i := 6) (by kernel_rfl) rfl (fun Kk hKk => ?_)
    go_simp
    (go_at_call 45; refine HCc.out.mono ?_; rintro e w6 ⟨v6, rfl, hL6, hx6⟩)
    have he6 := hx5.trans hx6
    obtain ⟨a6, c6, ev6, hc61, hc62, hat6⟩ := hL6.at hx6
    have hl6 : (opsA ++ opsB).length = n + m := by rw [List.length_append, HlA.out, HlB.out]
    rw [hl6] at ev6 hc61 hat6
    subst ev6
    go_wp2_with fail
    refine hKk.out _ _ (fun _ => ⟨⟨cell_ext l0 he6, cell_ext l1 he6, cell_ext l2 he6⟩, cell_ext j2 he6⟩) ?_
    clear hKk Kk
    simp only [List.setIfInBounds_toArray, List.set_cons_zero, List.set_cons_succ]
    have HWi := Lib.hid (with_N qa ba ao n cp a6 (n + m) c6 (opsA ++ opsB) w6 hat6 (by omega) (fun g hg => by
      rcases List.mem_append.1 hg with h | h
      · exact HfA.out g h
      · exact HfB.out g h))
    obtain ⟨nm, hnm⟩ : ∃ y, n + m = y := ⟨_, rfl⟩
    have Hnm := Lib.hid hnm
    rw [hnm] at HWi ⊢
    refine anyK_one (i := 7) (by kernel_rfl) rfl (fun Kk hKk => ?_)
    go_simp
    (go_at_call 40; refine HWi.out.mono ?_; rintro e w7 ⟨⟨a7, c7, rfl, hO7⟩, hx7⟩)
    have he7 := he6.trans hx7
    go_wp2_with fail
    refine hKk.out _ _ (fun _ => ⟨⟨cell_ext l0 he7, cell_ext l1 he7, cell_ext l2 he7⟩, cell_ext j2 he7⟩) ?_
    clear hKk Kk
    simp only [List.setIfInBounds_toArray, List.set_cons_zero, List.set_cons_succ]
    have bR7 := HbR.out.ext he7; have bF7 := HbF.out.ext he7
    have r0 := bR7.x0; have r1 := bR7.x1; have r2 := bR7.x2; have g0 := bR7.f 0; have g1 := bR7.f 1; have g2 := bR7.f 2
    refine anyK_one (i := 9) (by kernel_rfl) rfl (fun Kk hKk => ?_)
    refine stepK_storeC rfl rfl _ _ rfl (H + 2) qa ba a7 nm c7 _ _ _ rfl rfl r0 r1 r2 g0 g1 g2 ?_
    have hP1 : Only (H + 2) w7 (((w7.setCell ⟨H + 2, 0, none⟩ (.int .i64 qa)).setCell ⟨H + 2, 1, none⟩ (.int .i64 ba)).setCell ⟨H + 2, 2, none⟩ (.slice a7 nm c7)) := (((Only.refl _ _).setCell _ _).setCell _ _).setCell _ _
    have bA8 := (HA1.out.ext he7).kept hP1 (by omega); have bB8 := (HB1.out.ext he7).kept hP1 (by omega)
    refine hKk.out _ _ (fun _ => ⟨⟨bA8.x0, bA8.x1, bA8.x2⟩, bB8.x2⟩) ?_
    clear hKk Kk bA8 bB8
    simp only [List.setIfInBounds_toArray, List.set_cons_zero, List.set_cons_succ]
    have bF8 := bF7.kept hP1 (by omega)
    have f0 := bF8.x0; have f1 := bF8.x1; have k0 := bF8.f 0; have k1 := bF8.f 1
    refine anyK_one (i := 10) (by kernel_rfl) rfl (fun Kk hKk => ?_)
    refine stepK_storeF rfl rfl _ _ rfl (H + 3) 0 0 _ _ rfl rfl f0 f1 k0 k1 ?_
    refine hKk.out _ _ (fun h => Bool.noConfusion (show true = false from h)) ?_
    clear hKk Kk
    simp only [List.setIfInBounds_toArray, List.set_cons_zero, List.set_cons_succ]
    refine anyK_done (by kernel_rfl) ?_ _
    have zC := putCF_C bR7 (show H + 2 ≠ H + 3 by omega) qa ba a7 nm c7 0 0
    have zF := putCF_F bF7 (show H + 2 ≠ H + 3 by omega) qa ba a7 nm c7 0 0
    have zO := (putCF_opsN hO7 bR7 bF7 (show H + 2 ≠ H + 3 by omega) qa ba a7 nm c7 0 0).down (show w.heap.size ≤ w6.heap.size + 3 by have h1 := he6.size; have h2 := HsX.out; omega)
    have zE : Ext w (putCF w7 (H + 2) (H + 3) qa ba a7 nm c7 0 0) := putCF_ext (HbE.out.trans he7) (show w.heap.size ≤ H + 2 by omega) (show w.heap.size ≤ H + 3 by omega) _ _ _ _ _ _ _
    obtain ⟨Wz, hWz⟩ : ∃ Wz, putCF w7 (H + 2) (H + 3) qa ba a7 nm c7 0 0 = Wz := ⟨_, rfl⟩
    rw [hWz] at zC zF zO zE
    unfold putCF at hWz
    rw [hWz]
    have HzE := Lib.hid zE; have HzO := Lib.hid zO
    have v0 := zC.x0; have v1 := zC.x1; have v2 := zC.x2; have v3 := zF.x0; have v4 := zF.x1
    clear zC zF zO zE hWz hO7 hx7 he7 hx6 he6 hx5 Es hd0 bR7 bF7 bF8 hP1 hat6 r0 r1 r2 g0 g1 g2 f0 f1 k0 k1 t0 t1 hL6 hc61 hc62 l0 l1 l2 j0 j1 j2 hl6 hnm
    go_wp2_with fail
    exact bodyPost_ret (v := .tuple #[.agg #[.int .i64 qa, .int .i64 ba, .slice a7 nm c7], .agg #[.int .i64 0, .int .i64 0]]) (by simp [results, Tryz.results18, go_sem, v0, v1, v2, v3, v4]) rfl ⟨Or.inr ⟨HTz.out, a7, c7, by rw [Hnm.out], by rw [Hnm.out]; exact HzO.out⟩, HzE.out⟩

end Go.Proofs.YtfjnlopbmkimiaaGreatDoor
namespace Go.Proofs.YtfjnlopbmkimiaaGreatDoor
open Go.RowKit

/-- Two operations change places. -/
theorem rowF_swap {w w' : World} {base : Nat} {cs : Array Value} {ops : List Gop} {n i j : Nat} {gi gj : Gop} {a1 : Option Addr} {n1 c1 : Nat} {a2 : Option Addr} {n2 c2 : Nat} {b1 : Option Addr} {m1 d1 : Nat} {b2 : Option Addr} {m2 d2 : Nat}
    (hl : ops.length = n) (hij : i + j + 1 = n) (hlt : i < j) (hsz : n * 6 ≤ cs.size) (h : RowF w base (fun p => cs[p]?) (half ops i)) (hgi : ops[i]? = some gi) (hgj : ops[j]? = some gj)
    (hi : OpN w base gi a1 n1 c1 a2 n2 c2) (hj : OpN w base gj b1 m1 d1 b2 m2 d2) (hk : ∀ g a1 n1 c1 a2 n2 c2, OpN w base g a1 n1 c1 a2 n2 c2 → OpN w' base g a1 n1 c1 a2 n2 c2) :
    RowF w' base (fun p => (set6 (set6 cs (i * 6) (opF gj b1 m1 d1 b2 m2 d2)) (j * 6) (opF gi a1 n1 c1 a2 n2 c2))[p]?) (half ops (i + 1)) := by
  intro t g hg
  have ht : t < n := by have := (List.getElem?_eq_some_iff.1 hg).1; rw [half_len (by omega), hl] at this; exact this
  rw [half_get (by omega) (by omega), hl] at hg
  by_cases e1 : t = j
  · subst e1
    rw [if_pos (by omega), show n - 1 - t = i by omega, hgi] at hg
    injection hg with hg
    subst hg
    have hin := fun k hk => set6_in (set6 cs (i * 6) (opF gj b1 m1 d1 b2 m2 d2)) (t * 6) (opF gi a1 n1 c1 a2 n2 c2) k hk (by rw [set6_size]; omega)
    exact ⟨a1, n1, c1, a2, n2, c2, hin 0 (by omega), hin 1 (by omega), hin 2 (by omega), hin 3 (by omega), hin 4 (by omega), hin 5 (by omega), hk _ _ _ _ _ _ _ hi⟩
  · have hout : ∀ k, k < 6 → (set6 (set6 cs (i * 6) (opF gj b1 m1 d1 b2 m2 d2)) (j * 6) (opF gi a1 n1 c1 a2 n2 c2))[t * 6 + k]? = (set6 cs (i * 6) (opF gj b1 m1 d1 b2 m2 d2))[t * 6 + k]? := fun k hk => set6_out _ _ _ _ (by omega)
    by_cases e2 : t = i
    · subst e2
      rw [if_pos (by omega), show n - 1 - t = j by omega, hgj] at hg
      injection hg with hg
      subst hg
      have hin := fun k hk => (hout k hk).trans (set6_in cs (t * 6) (opF gj b1 m1 d1 b2 m2 d2) k hk (by omega))
      exact ⟨b1, m1, d1, b2, m2, d2, hin 0 (by omega), hin 1 (by omega), hin 2 (by omega), hin 3 (by omega), hin 4 (by omega), hin 5 (by omega), hk _ _ _ _ _ _ _ hj⟩
    · have hg' : (half ops i)[t]? = some g := by
        rw [half_get (by omega) (by omega), hl]
        by_cases e3 : t < i ∨ n - i ≤ t
        · rw [if_pos e3]; rw [if_pos (by omega)] at hg; exact hg
        · rw [if_neg e3]; rw [if_neg (by omega)] at hg; exact hg
      obtain ⟨x1, x2, x3, x4, x5, x6, y0, y1, y2, y3, y4, y5, y6⟩ := h t g hg'
      have hin := fun k hk => (hout k hk).trans (set6_out cs (i * 6) (opF gj b1 m1 d1 b2 m2 d2) (t * 6 + k) (by omega))
      exact ⟨x1, x2, x3, x4, x5, x6, (hin 0 (by omega)).trans y0, (hin 1 (by omega)).trans y1, (hin 2 (by omega)).trans y2, (hin 3 (by omega)).trans y3, (hin 4 (by omega)).trans y4, (hin 5 (by omega)).trans y5, hk _ _ _ _ _ _ _ y6⟩

/-- Two places change what they hold: no two cells lead into one block. -/
theorem sepF_swap {cs : Array Value} {n i j : Nat} {fi fj : Nat → Value} (hlt : i < j) (hj : j < n) (hsz : n * 6 ≤ cs.size) (hi6 : ∀ k, k < 6 → cs[i * 6 + k]? = some (fi k)) (hj6 : ∀ k, k < 6 → cs[j * 6 + k]? = some (fj k)) (h : SepF (n * 6) (fun p => cs[p]?)) :
    SepF (n * 6) (fun p => (set6 (set6 cs (i * 6) fj) (j * 6) fi)[p]?) := by
  have key : ∀ p, p < n * 6 → ∃ q, q < n * 6 ∧ (set6 (set6 cs (i * 6) fj) (j * 6) fi)[p]? = cs[q]? ∧ (p / 6 = i → q = j * 6 + p % 6) ∧ (p / 6 = j → q = i * 6 + p % 6) ∧ (p / 6 ≠ i → p / 6 ≠ j → q = p) := by
    intro p hp
    have hpe : p = p / 6 * 6 + p % 6 := by omega
    have hp6 : p % 6 < 6 := by omega
    by_cases e1 : p / 6 = j
    · refine ⟨i * 6 + p % 6, by omega, ?_, fun e => by omega, fun _ => rfl, fun _ e => absurd e1 e⟩
      have h1 := set6_in (set6 cs (i * 6) fj) (j * 6) fi (p % 6) hp6 (by rw [set6_size]; omega)
      rw [show j * 6 + p % 6 = p by omega] at h1
      rw [h1, hi6 _ hp6]
    · by_cases e2 : p / 6 = i
      · refine ⟨j * 6 + p % 6, by omega, ?_, fun _ => rfl, fun e => absurd e e1, fun e => absurd e2 e⟩
        have h1 := set6_in cs (i * 6) fj (p % 6) hp6 (by omega)
        rw [show i * 6 + p % 6 = p by omega] at h1
        rw [set6_out _ _ _ _ (by omega), h1, hj6 _ hp6]
      · refine ⟨p, hp, ?_, fun e => absurd e e2, fun e => absurd e e1, fun _ _ => rfl⟩
        rw [set6_out _ _ _ _ (by omega), set6_out _ _ _ _ (by omega)]
  intro p q k u v hp hq eu ev ku kv
  obtain ⟨p', hp1, hp2, hp3, hp4, hp5⟩ := key p hp
  obtain ⟨q', hq1, hq2, hq3, hq4, hq5⟩ := key q hq
  simp only at eu ev
  rw [hp2] at eu
  rw [hq2] at ev
  have he := h p' q' k u v hp1 hq1 eu ev ku kv
  by_cases e1 : p / 6 = i
  · have := hp3 e1
    by_cases e2 : q / 6 = i
    · have := hq3 e2; omega
    · by_cases e3 : q / 6 = j
      · have := hq4 e3; omega
      · have := hq5 e2 e3; omega
  · by_cases e1' : p / 6 = j
    · have := hp4 e1'
      by_cases e2 : q / 6 = i
      · have := hq3 e2; omega
      · by_cases e3 : q / 6 = j
        · have := hq4 e3; omega
        · have := hq5 e2 e3; omega
    · have := hp5 e1 e1'
      by_cases e2 : q / 6 = i
      · have := hq3 e2; omega
      · by_cases e3 : q / 6 = j
        · have := hq4 e3; omega
        · have := hq5 e2 e3; omega

set_option maxHeartbeats 8000000 in
set_option maxRecDepth 100000 in
theorem reverse_N (base : Nat) (a : Option Addr) (n c : Nat) (ops : List Gop) (w : World) (h : OpsN w base (.slice a n c) ops) (hn : n ≤ 10000) :
    Calls Tryz.prog 41 #[.slice a n c] w fun e w' => e = .returned (.tuple #[]) ∧ OpsN w' base (.slice a n c) ops.reverse ∧ Rvs (.slice a n c) w w' := by
  by_cases h0 : n = 0
  · subst h0
    have hl : ops = [] := List.length_eq_zero_iff.1 h.at.1
    subst hl
    have HO := Lib.hid h
    have wn1 : IntKind.i64.wrap (((0 : Nat) : Int) - 1) = -1 := by decide
    clear h
    go_enter Tryz.func41, Tryz.ntmps41
    go_wp2_with fail
    go_loopg [2, 3] 0 (fun kk s2 s3 wx => s2 = .int .i64 0 ∧ s3 = .int .i64 (-1) ∧ kk = 0 ∧ wx = w)
    case atStart => exact ⟨rfl, rfl, rfl, rfl⟩
    case round =>
      obtain ⟨rfl, rfl, rfl, rfl⟩ := hrel
      go_wp2_with fail
      go_end0
      exact ⟨rfl, HO.out, Rvs.refl _ _⟩
  · obtain ⟨hl, g, cur0, rfl, hb, hg, hnc, hcm, hsz, hsep, hrow⟩ := opsN_open h (by omega)
    have Hsep := Lib.hid hsep
    obtain ⟨n1, hn1⟩ : ∃ x : Int, (n : Int) - 1 = x := ⟨_, rfl⟩
    have wn1 : IntKind.i64.wrap ((n : Int) - 1) = n1 := by rw [IntKind.wrap_i64]; omega
    have Hg := Lib.hid hg; have Hrow := Lib.hid hrow; have Hl := Lib.hid hl; have Hsz := Lib.hid hsz; have Hb := Lib.hid hb; have Hnc := Lib.hid hnc; have Hcm := Lib.hid hcm
    clear h hg hrow hl hsz hb hnc hcm hsep
    go_enter Tryz.func41, Tryz.ntmps41
    go_wp2_with fail
    go_loopg [2, 3] n (fun kk s2 s3 wx => ∃ (i : Nat) (j : Int) (cur : Array Value), s2 = .int .i64 (i : Int) ∧ s3 = .int .i64 j ∧ j = n1 - (i : Int) ∧ 2 * i ≤ n ∧ n - i = kk ∧ wx.heap[g]? = some (.cells cur 60 (0, 0)) ∧ cur.size = c * 6 ∧ SepF (n * 6) (fun p => cur[p]?) ∧ RowF wx base (fun p => cur[p]?) (half ops i) ∧ Only g w wx)
    case atStart => exact ⟨0, n1, cur0, rfl, rfl, by omega, by omega, by omega, Hg.out, Hsz.out, Hsep.out, by rw [half_zero]; exact Hrow.out, Only.refl _ _⟩
    case round =>
      clear Hg Hrow Hsz Hsep
      obtain ⟨i, j, cur, rfl, rfl, hj, h2i, hk, hg, hsz, hsep, hrow, hB⟩ := hrel
      by_cases hlt : (i : Int) < j
      · obtain ⟨jn, rfl⟩ : ∃ m : Nat, j = (m : Int) := ⟨j.toNat, by omega⟩
        have q1' : decide ((i : Int) < (jn : Int)) = true := dt hlt
        have hij : i + jn + 1 = n := by omega
        have b0 : (0 : Int) ≤ (i : Int) := by omega
        have b1 : (i : Int) < (n : Int) := by omega
        have b2 : (0 : Int) ≤ (jn : Int) := by omega
        have b3 : (jn : Int) < (n : Int) := by omega
        obtain ⟨gi, hgi⟩ : ∃ x, ops[i]? = some x := ⟨_, List.getElem?_eq_getElem (by rw [Hl.out]; omega)⟩
        obtain ⟨gj, hgj⟩ : ∃ x, ops[jn]? = some x := ⟨_, List.getElem?_eq_getElem (by rw [Hl.out]; omega)⟩
        obtain ⟨a1, m1, c1, a2, m2, c2, x0, x1, x2, x3, x4, x5, x6⟩ := hrow i gi (by rw [half_get (by rw [Hl.out]; omega) (by rw [Hl.out]; omega), if_neg (by rw [Hl.out]; omega)]; exact hgi)
        obtain ⟨b1', p1, d1, b2', p2, d2, y0, y1, y2, y3, y4, y5, y6⟩ := hrow jn gj (by rw [half_get (by rw [Hl.out]; omega) (by rw [Hl.out]; omega), if_neg (by rw [Hl.out]; omega)]; exact hgj)
        have ce : ∀ (k : Nat) (v : Value), cur[k]? = some v → wr.cell? ⟨g, k, none⟩ = some v := fun k v e => by rw [cell_of_row wr g k cur _ (0, 0) hg]; exact e
        have fz : ∀ k, wr.frozen? ⟨g, k, none⟩ = false := fun k => frozen_of_row wr g k _ _ hg
        have u0 := ce _ _ x0; have u1 := ce _ _ x1; have u2 := ce _ _ x2; have u3 := ce _ _ x3; have u4 := ce _ _ x4; have u5 := ce _ _ x5
        have v0 := ce _ _ y0; have v1 := ce _ _ y1; have v2 := ce _ _ y2; have v3 := ce _ _ y3; have v4 := ce _ _ y4; have v5 := ce _ _ y5
        have wi : IntKind.i64.wrap ((i : Int) + 1) = ((i + 1 : Nat) : Int) := by rw [IntKind.wrap_i64]; omega
        obtain ⟨j1, hj1⟩ : ∃ x : Int, (jn : Int) - 1 = x := ⟨_, rfl⟩
        have wj : IntKind.i64.wrap ((jn : Int) - 1) = j1 := by rw [IntKind.wrap_i64]; omega
        have ne : jn ≠ i := by omega
        have hsp := sepF_swap (cs := cur) (n := n) (i := i) (j := jn) (fi := opF gi a1 m1 c1 a2 m2 c2) (fj := opF gj b1' p1 d1 b2' p2 d2) (by omega) (show jn < n by omega) (by rw [hsz]; have := Hnc.out; omega) (fun k hk6 => by
          rcases (show k = 0 ∨ k = 1 ∨ k = 2 ∨ k = 3 ∨ k = 4 ∨ k = 5 by omega) with rfl | rfl | rfl | rfl | rfl | rfl
          · exact x0
          · exact x1
          · exact x2
          · exact x3
          · exact x4
          · exact x5) (fun k hk6 => by
          rcases (show k = 0 ∨ k = 1 ∨ k = 2 ∨ k = 3 ∨ k = 4 ∨ k = 5 by omega) with rfl | rfl | rfl | rfl | rfl | rfl
          · exact y0
          · exact y1
          · exact y2
          · exact y3
          · exact y4
          · exact y5) hsep
        have Hsp := Lib.hid hsp
        have Hij := Lib.hid hij; have Hj := Lib.hid hj; have Hj1 := Lib.hid hj1; have Hn1 := Lib.hid hn1; have Hlt := Lib.hid hlt
        have Hg := Lib.hid hg; have Hsz := Lib.hid hsz; have Hrow := Lib.hid hrow; have HB := Lib.hid hB
        have Hx6 := Lib.hid x6; have Hy6 := Lib.hid y6; have Hgi := Lib.hid hgi; have Hgj := Lib.hid hgj; have H2i := Lib.hid h2i; have Hk := Lib.hid hk
        obtain ⟨kdi, ki, ctli, qi, bti, cndi⟩ := gi
        obtain ⟨kdj, kj, ctlj, qj, btj, cndj⟩ := gj
        simp only at u0 u1 u3 u4 v0 v1 v3 v4
        clear hsp hsep ce hij hj hj1 hn1 hg hsz hrow hB x6 y6 hgi hgj x0 x1 x2 x3 x4 x5 y0 y1 y2 y3 y4 y5 h2i hk
        have hWo : Only g wr (putAt (putAt wr g (i * 6) (opF ⟨kdj, kj, ctlj, qj, btj, cndj⟩ b1' p1 d1 b2' p2 d2)) g (jn * 6) (opF ⟨kdi, ki, ctli, qi, bti, cndi⟩ a1 m1 c1 a2 m2 c2)) := ((((((putAt_only wr g (i * 6) (opF ⟨kdj, kj, ctlj, qj, btj, cndj⟩ b1' p1 d1 b2' p2 d2)).setCell _ _).setCell _ _).setCell _ _).setCell _ _).setCell _ _).setCell _ _
        have hWr := putAt_row (p := jn * 6) (opF ⟨kdi, ki, ctli, qi, bti, cndi⟩ a1 m1 c1 a2 m2 c2) (putAt_row (p := i * 6) (opF ⟨kdj, kj, ctlj, qj, btj, cndj⟩ b1' p1 d1 b2' p2 d2) Hg.out)
        have hWb : Only g w (putAt (putAt wr g (i * 6) (opF ⟨kdj, kj, ctlj, qj, btj, cndj⟩ b1' p1 d1 b2' p2 d2)) g (jn * 6) (opF ⟨kdi, ki, ctli, qi, bti, cndi⟩ a1 m1 c1 a2 m2 c2)) := HB.out.trans (Only.trans (putAt_only wr g (i * 6) _) (putAt_only _ g (jn * 6) _))
        have hWs : (putAt (putAt wr g (i * 6) (opF ⟨kdj, kj, ctlj, qj, btj, cndj⟩ b1' p1 d1 b2' p2 d2)) g (jn * 6) (opF ⟨kdi, ki, ctli, qi, bti, cndi⟩ a1 m1 c1 a2 m2 c2)).heap.size = wr.heap.size := by rw [putAt_size, putAt_size]
        obtain ⟨Wz, hWz⟩ : ∃ Wz, putAt (putAt wr g (i * 6) (opF ⟨kdj, kj, ctlj, qj, btj, cndj⟩ b1' p1 d1 b2' p2 d2)) g (jn * 6) (opF ⟨kdi, ki, ctli, qi, bti, cndi⟩ a1 m1 c1 a2 m2 c2) = Wz := ⟨_, rfl⟩
        rw [hWz] at hWo hWr hWb hWs
        have hki := only_ints Hg.out (by decide) hWo
        have HRz := Lib.hid (rowF_swap (w' := Wz.drew) Hl.out Hij.out (by have := Hlt.out; omega) (by rw [Hsz.out]; have := Hnc.out; omega) Hrow.out Hgi.out Hgj.out Hx6.out Hy6.out (fun _ _ _ _ _ _ _ ho => ho.keep (w' := Wz.drew) hki))
        have HWz : Hid (_ = Wz) := Lib.hid hWz
        have Hrz := Lib.hid (show Wz.drew.heap[g]? = _ from hWr); have HBz := Lib.hid (Only.drewn hWb)
        have Hs6 := Lib.hid (show (set6 (set6 cur (i * 6) (opF ⟨kdj, kj, ctlj, qj, btj, cndj⟩ b1' p1 d1 b2' p2 d2)) (jn * 6) (opF ⟨kdi, ki, ctli, qi, bti, cndi⟩ a1 m1 c1 a2 m2 c2)).size = c * 6 by rw [set6_size, set6_size]; exact Hsz.out)
        clear hWo hWr hWb hWs hWz hki
        simp only [putAt, opF] at HWz
        go_upto_region 3 with fail
        go_region
        rw [HWz.out]
        generalize Wz.drew = Wd at *
        go_wp2_with fail
        go_roundg (n - (i + 1))
        case measure => have := Hk.out; have := H2i.out; have := Hij.out; omega
        case rel => exact ⟨i + 1, j1, _, rfl, rfl, by have := Hj1.out; have := Hj.out; omega, by have := Hij.out; have := Hlt.out; omega, rfl, Hrz.out, Hs6.out, Hsp.out, HRz.out, HBz.out⟩
      · have q1' : decide ((i : Int) < j) = false := df hlt
        have hdone := half_done (ops := ops) (i := i) (by rw [Hl.out]; exact h2i) (by rw [Hl.out]; omega)
        rw [hdone] at hrow
        have HO := Lib.hid (opsN_close (base := base) (n := n) (c := c) (by rw [List.length_reverse]; exact Hl.out) Hb.out hg Hnc.out Hcm.out hsz hsep hrow)
        have HB := Lib.hid hB
        clear hdone hrow hg hsz hB hj hsep
        go_wp2_with fail
        go_end0
        exact ⟨rfl, HO.out, Rvs.of_only HB.out⟩

end Go.Proofs.YtfjnlopbmkimiaaGreatDoor
namespace Go.Proofs.YtfjnlopbmkimiaaGreatDoor
open Go.RowKit

/-- An operation of a row is undone. -/
theorem rowF_undo {w w' : World} {base : Nat} {cs : Array Value} {ops : List Gop} {n i : Nat} {gi : Gop} (hl : ops.length = n) (hi : i < n) (hsz : n * 6 ≤ cs.size) (h : RowF w base (fun p => cs[p]?) (invF ops i)) (hgi : ops[i]? = some gi)
    (hk : ∀ g a1 n1 c1 a2 n2 c2, OpN w base g a1 n1 c1 a2 n2 c2 → OpN w' base g a1 n1 c1 a2 n2 c2) : RowF w' base (fun p => (cs.setIfInBounds (i * 6 + 1) (.int .i64 (opp gi.k)))[p]?) (invF ops (i + 1)) := by
  intro t g hg
  have ht : t < n := by have := (List.getElem?_eq_some_iff.1 hg).1; rw [invF_len, hl] at this; exact this
  rw [invF_get (by omega)] at hg
  by_cases e1 : t = i
  · subst e1
    rw [if_pos (by omega), hgi] at hg
    injection hg with hg
    subst hg
    obtain ⟨x1, x2, x3, x4, x5, x6, y0, y1, y2, y3, y4, y5, y6⟩ := h t gi (by rw [invF_get (by omega), if_neg (by omega)]; exact hgi)
    have ho := hk _ _ _ _ _ _ _ y6
    refine ⟨x1, x2, x3, x4, x5, x6, ?_, ?_, ?_, ?_, ?_, ?_, ⟨ho.i1, ho.i2, ho.ne⟩⟩
    · show (cs.setIfInBounds _ _)[_]? = _; rw [Array.getElem?_setIfInBounds, if_neg (by omega)]; exact y0
    · show (cs.setIfInBounds _ _)[_]? = _; rw [Array.getElem?_setIfInBounds, if_pos rfl, if_pos (by omega)]; rfl
    · show (cs.setIfInBounds _ _)[_]? = _; rw [Array.getElem?_setIfInBounds, if_neg (by omega)]; exact y2
    · show (cs.setIfInBounds _ _)[_]? = _; rw [Array.getElem?_setIfInBounds, if_neg (by omega)]; exact y3
    · show (cs.setIfInBounds _ _)[_]? = _; rw [Array.getElem?_setIfInBounds, if_neg (by omega)]; exact y4
    · show (cs.setIfInBounds _ _)[_]? = _; rw [Array.getElem?_setIfInBounds, if_neg (by omega)]; exact y5
  · have hg' : (invF ops i)[t]? = some g := by
      rw [invF_get (by omega)]
      by_cases e3 : t < i
      · rw [if_pos e3]; rw [if_pos (by omega)] at hg; exact hg
      · rw [if_neg e3]; rw [if_neg (by omega)] at hg; exact hg
    obtain ⟨x1, x2, x3, x4, x5, x6, y0, y1, y2, y3, y4, y5, y6⟩ := h t g hg'
    refine ⟨x1, x2, x3, x4, x5, x6, ?_, ?_, ?_, ?_, ?_, ?_, hk _ _ _ _ _ _ _ y6⟩
    · show (cs.setIfInBounds _ _)[_]? = _; rw [Array.getElem?_setIfInBounds, if_neg (by omega)]; exact y0
    · show (cs.setIfInBounds _ _)[_]? = _; rw [Array.getElem?_setIfInBounds, if_neg (by omega)]; exact y1
    · show (cs.setIfInBounds _ _)[_]? = _; rw [Array.getElem?_setIfInBounds, if_neg (by omega)]; exact y2
    · show (cs.setIfInBounds _ _)[_]? = _; rw [Array.getElem?_setIfInBounds, if_neg (by omega)]; exact y3
    · show (cs.setIfInBounds _ _)[_]? = _; rw [Array.getElem?_setIfInBounds, if_neg (by omega)]; exact y4
    · show (cs.setIfInBounds _ _)[_]? = _; rw [Array.getElem?_setIfInBounds, if_neg (by omega)]; exact y5

theorem sepF_int {cs : Array Value} {m p : Nat} {z : Int} (h : SepF m (fun q => cs[q]?)) : SepF m (fun q => (cs.setIfInBounds p (.int .i64 z))[q]?) := by
  have key : ∀ (q : Nat) (u : Value) (k : Nat), (cs.setIfInBounds p (.int .i64 z))[q]? = some u → u.ownBlock = some k → cs[q]? = some u := by
    intro q u k hu hk
    rw [Array.getElem?_setIfInBounds] at hu
    split at hu
    · split at hu
      · cases hu; simp [Value.ownBlock] at hk
      · cases hu
    · exact hu
  intro i j k u v hi hj eu ev ku kv
  exact h i j k u v hi hj (key i u k eu ku) (key j v k ev kv) ku kv

set_option maxHeartbeats 8000000 in
set_option maxRecDepth 100000 in
theorem Inverse_N (c : Gci) (ao : Option Addr) (n cp : Nat) (w : World) (h : OpsAt w ao n c.ops) (hn : n ≤ cp) (hcp : cp ≤ 9223372036854775807) (hS : Shp w) (hp : (pur c).1 = 0) :
    Calls Tryz.prog 16 #[.agg #[.int .i64 c.qubits, .int .i64 c.bits, .slice ao n cp]] w fun e w' => (∃ (a' : Option Addr) (c' : Nat), e = .returned (.tuple #[.agg #[.int .i64 c.qubits, .int .i64 c.bits, .slice a' n c'], .agg #[.int .i64 0, .int .i64 0]]) ∧ OpsN w' (w.heap.size + 3) (.slice a' n c') (invO c.ops)) ∧ Ext w w' := by
  obtain ⟨hck, hpz⟩ := pur_zero hp
  obtain ⟨hz, hq1, hq2, hb1, hb2, hl4, hop⟩ := chk_zero hck
  have hfit : ∀ g ∈ c.ops, (g.ctl.length ≤ 1000 ∧ g.cnd.length ≤ 1000) ∧ 0 ≤ g.k ∧ g.k ≤ 15 := fun g hg => by
    have f := prFit_of_code hq2 hb1 hb2 (hop g hg)
    exact ⟨⟨Nat.le_trans f.few (by decide), Nat.le_trans f.cfew (by decide)⟩, opk_range (hop g hg)⟩
  have hl : c.ops.length = n := h.1
  rw [hl] at hl4
  obtain ⟨qb, bi, ops⟩ := c
  simp only at hfit hl h ⊢
  obtain ⟨H, hH⟩ : ∃ H, w.heap.size = H := ⟨_, rfl⟩
  obtain ⟨A1, hA1⟩ : ∃ A1, w.alloc (.cells #[.int .i64 qb, .int .i64 bi, .slice ao n cp] 24) = A1 := ⟨_, rfl⟩
  obtain ⟨A2, hA2⟩ : ∃ A2, A1.alloc (.cells #[.int .i64 0, .int .i64 0, .slice none 0 0] 24) = A2 := ⟨_, rfl⟩
  obtain ⟨A3, hA3⟩ : ∃ A3, A2.alloc (.cells #[.int .i64 0, .int .i64 0] 31) = A3 := ⟨_, rfl⟩
  have s1 : A1.heap.size = H + 1 := by rw [← hA1, ← hH]; simp
  have s2 : A2.heap.size = H + 2 := by rw [← hA2]; simp; omega
  have s3 : A3.heap.size = H + 3 := by rw [← hA3]; simp; omega
  have x1 : Ext w A1 := by rw [← hA1]; exact ext_al _ _
  have x2 : Ext A1 A2 := by rw [← hA2]; exact ext_al _ _
  have x3 : Ext A2 A3 := by rw [← hA3]; exact ext_al _ _
  have bC : CiB A3 H qb bi ao n cp := by
    have : CiB A1 H qb bi ao n cp := by rw [← hA1, ← hH]; exact ⟨heap_alloc_new w _⟩
    exact (this.ext x2).ext x3
  have bR : CiB A3 (H + 1) 0 0 none 0 0 := by
    have : CiB A2 (H + 1) 0 0 none 0 0 := by rw [← hA2, ← s1]; exact ⟨heap_alloc_new A1 _⟩
    exact this.ext x3
  have bF : FtB A3 (H + 2) 0 0 := by rw [← hA3, ← s2]; exact ⟨heap_alloc_new A2 _⟩
  have E0 : Ext w A3 := (x1.trans x2).trans x3
  have hA : ((w.alloc (.cells #[.int .i64 qb, .int .i64 bi, .slice ao n cp] 24)).alloc (.cells #[.int .i64 0, .int .i64 0, .slice none 0 0] 24)).alloc (.cells #[.int .i64 0, .int .i64 0] 31) = A3 := by rw [hA1, hA2, hA3]
  have HK := Lib.hid (Pure_any ⟨qb, bi, ops⟩ ao n cp A3 (h.ext E0) hn hcp (hS.ext E0))
  rw [hpz] at HK
  simp only at HK
  have m0 := bC.x0; have m1 := bC.x1; have m2 := bC.x2
  rw [← hA] at m0 m1 m2
  have HA := Lib.hid hA; have HE0 := Lib.hid E0; have HC := Lib.hid bC; have HR := Lib.hid bR; have HFt := Lib.hid bF
  have Hops := Lib.hid (h.ext E0); have Hfit := Lib.hid hfit; have Hl := Lib.hid hl; have Hs3 := Lib.hid s3; have HhH := Lib.hid hH
  clear h hS hpz E0 bC bR bF x1 x2 x3 s1 s2 s3 hA1 hA2 hA3 hA hfit hl hck hz hq1 hq2 hb1 hb2 hop hp
  go_enter Tryz.func16, Tryz.ntmps16
  go_wp2_with fail
  rw [HA.out]
  refine HK.out.mono ?_
  rintro e w1 ⟨rfl, hx1⟩
  have Ef := ext_al w1 (.cells #[.int .i64 0, .int .i64 0] 31)
  have bf1 : FtB (w1.alloc (.cells #[.int .i64 0, .int .i64 0] 31)) w1.heap.size 0 0 := ⟨heap_alloc_new w1 _⟩
  have q0 := bf1.x0; have q1 := bf1.x1
  have hX := hx1.trans Ef
  have bC1 := HC.out.ext hX
  have y0 := bC1.x0; have y1 := bC1.x1; have y2 := bC1.x2
  have HR1 := Lib.hid (HR.out.ext hX); have HF1 := Lib.hid (HFt.out.ext hX); have HE1 := Lib.hid (HE0.out.trans hX); have Hops1 := Lib.hid (Hops.out.ext hX)
  have Hsz1 := Lib.hid (show H + 3 ≤ (w1.alloc (.cells #[.int .i64 0, .int .i64 0] 31)).heap.size by rw [← Hs3.out]; exact hX.size)
  clear hx1 Ef bf1 hX bC1 HK HC HR HFt HE0 Hops m0 m1 m2
  go_wp2_with fail
  generalize w1.alloc (.cells #[.int .i64 0, .int .i64 0] 31) = W1 at *
  refine (with_N qb bi ao n cp ao n cp ops W1 Hops1.out (by omega) (fun g hg => (Hfit.out g hg).1)).mono ?_
  rintro e w2 ⟨⟨av, cv, rfl, hO2⟩, hx2⟩
  obtain ⟨Ob, hOb⟩ : ∃ x, w2.heap.size = x := ⟨_, rfl⟩
  have Eo := ext_al w2 (.cells #[.int .i64 qb, .int .i64 bi, .slice av n cv] 24)
  have bO : CiB (w2.alloc (.cells #[.int .i64 qb, .int .i64 bi, .slice av n cv] 24)) Ob qb bi av n cv := by rw [← hOb]; exact ⟨heap_alloc_new w2 _⟩
  have z2 := bO.x2
  have hlt2 : ∀ k, (Value.slice av n cv).ownBlock = some k → H + 3 ≤ k ∧ k < Ob := by
    obtain ⟨xs, hox⟩ := hO2
    have ho := hox.own
    intro k hk
    have h1 := own_lt ho k hk
    have h2 := Hsz1.out
    omega
  have HOo := Lib.hid (hO2.ext Eo); have HbO := Lib.hid bO; have HR2 := Lib.hid (HR1.out.ext (hx2.trans Eo)); have HF2 := Lib.hid (HF1.out.ext (hx2.trans Eo)); have HE2 := Lib.hid (HE1.out.trans (hx2.trans Eo)); have Hlt2 := Lib.hid hlt2
  have Hb3 := Lib.hid (show H + 3 ≤ W1.heap.size + 3 by have := Hsz1.out; omega)
  clear hO2 hx2 Eo bO hlt2 HR1 HF1 HE1 Hops1 y0 y1 y2 q0 q1
  go_wp2_with fail
  generalize w2.alloc (.cells #[.int .i64 qb, .int .i64 bi, .slice av n cv] 24) = W2 at *
  refine (reverse_N (W1.heap.size + 3) av n cv ops W2 HOo.out (by omega)).mono ?_
  rintro e w3 ⟨rfl, hO3, hrv⟩
  have bO3 := HbO.out.rvs hrv (fun e => by have := (Hlt2.out _ e).2; omega)
  have y2 := bO3.x2
  have HR3 := Lib.hid (HR2.out.rvs hrv (fun e => by have := (Hlt2.out _ e).1; omega)); have HF3 := Lib.hid (HF2.out.rvs hrv (fun e => by have := (Hlt2.out _ e).1; omega)); have HE3 := Lib.hid (hrv.ext HE2.out (fun i e => by have := (Hlt2.out _ e).1; have := HhH.out; omega))
  have HbO3 := Lib.hid bO3; have HO3 := Lib.hid hO3
  clear hrv bO3 hO3 HOo HbO HR2 HF2 HE2 z2
  go_wp2_with fail
  obtain ⟨rops, hrops⟩ : ∃ x, ops.reverse = x := ⟨_, rfl⟩
  have Hrl := Lib.hid (show rops.length = n by rw [← hrops, List.length_reverse]; exact Hl.out)
  have Hrf := Lib.hid (show ∀ g ∈ rops, 0 ≤ g.k ∧ g.k ≤ 15 from fun g hg => (Hfit.out g (by rw [← hrops] at hg; exact List.mem_reverse.1 hg)).2)
  have Hinv := Lib.hid (show invO ops = rops.map undoO by unfold invO; rw [hrops])
  rw [hrops] at HO3
  clear hrops Hfit
  obtain ⟨base, hbase⟩ : ∃ x, W1.heap.size + 3 = x := ⟨_, rfl⟩
  rw [hbase] at HO3 Hb3
  clear hbase
  go_loopg [6, 7, 25] n (fun kk s6 s7 s25 wx => ∃ (i : Nat), s25 = .int .i64 (i : Int) ∧ i ≤ n ∧ n - i = kk ∧ CiB wx (H + 1) 0 0 none 0 0 ∧ FtB wx (H + 2) 0 0 ∧ CiB wx Ob qb bi av n cv ∧ OpsN wx base (.slice av n cv) (invF rops i) ∧ Ext w wx ∧ H + 3 ≤ wx.heap.size ∧ Ob < wx.heap.size)
  case atStart => exact ⟨0, rfl, by omega, by omega, HR3.out, HF3.out, HbO3.out, by rw [invF_zero]; exact HO3.out, HE3.out, by have := HF3.out.lt; omega, HbO3.out.lt⟩
  case round =>
    clear HR3 HF3 HbO3 HO3 HE3 y2
    obtain ⟨i, rfl, hin', hk, bR, bF, bO, hO, hX, hs3, hsO⟩ := hrel
    by_cases hin : i = n
    · have q1 : ¬ (i : Int) < (n : Int) := by omega
      have q1' : decide ((i : Int) < (n : Int)) = false := df q1
      rw [invF_all (by rw [Hrl.out]; omega), ← Hinv.out] at hO
      have y0 := bO.x0; have y1 := bO.x1; have y2 := bO.x2
      have r0 := bR.x0; have r1 := bR.x1; have r2 := bR.x2; have g0 := bR.f 0; have g1 := bR.f 1; have g2 := bR.f 2
      have f0 := bF.x0; have f1 := bF.x1; have k0 := bF.f 0; have k1 := bF.f 1
      have zC := putCF_C bR (show H + 1 ≠ H + 1 + 1 by omega) qb bi av n cv 0 0
      have zF := putCF_F bF (show H + 1 ≠ H + 2 by omega) qb bi av n cv 0 0
      have zO := putCF_opsN hO bR bF (show H + 1 ≠ H + 2 by omega) qb bi av n cv 0 0
      have zE : Ext w (putCF wr (H + 1) (H + 2) qb bi av n cv 0 0) := putCF_ext hX (show w.heap.size ≤ H + 1 by omega) (show w.heap.size ≤ H + 2 by omega) _ _ _ _ _ _ _
      obtain ⟨Wz, hWz⟩ : ∃ Wz, putCF wr (H + 1) (H + 2) qb bi av n cv 0 0 = Wz := ⟨_, rfl⟩
      rw [show H + 1 + 1 = H + 2 from rfl] at zC
      rw [hWz] at zC zF zO zE
      unfold putCF at hWz
      have HWz := Lib.hid hWz; have HzE := Lib.hid zE; have HzO := Lib.hid zO
      have v0 := zC.x0; have v1 := zC.x1; have v2 := zC.x2; have v3 := zF.x0; have v4 := zF.x1
      clear zC zF zO zE hWz bR bF bO hO hX hin hin' hk hs3 hsO
      go_wp2_with fail
      rw [HWz.out]
      have HH := HhH.out
      exact bodyPost_ret (v := .tuple #[.agg #[.int .i64 qb, .int .i64 bi, .slice av n cv], .agg #[.int .i64 0, .int .i64 0]]) (by simp [results, Tryz.results16, go_sem, v0, v1, v2, v3, v4]) rfl ⟨⟨av, cv, rfl, HzO.out.down (by have := Hb3.out; omega)⟩, HzE.out⟩
    · have q1 : (i : Int) < (n : Int) := by omega
      have q1' : decide ((i : Int) < (n : Int)) = true := dt q1
      have p0 : (0 : Int) ≤ (i : Int) := by omega
      obtain ⟨gg, hg⟩ : ∃ g, rops[i]? = some g := ⟨_, List.getElem?_eq_getElem (by rw [Hrl.out]; omega)⟩
      have hkr := Hrf.out gg (List.mem_of_getElem? hg)
      obtain ⟨hl2, g, cur, eav, hbg, hrw, hnc, hcm, hsz, hsep, hrow⟩ := opsN_open hO (by omega)
      subst eav
      obtain ⟨a1, n1, c1, a2, n2, c2, x0, x1, x2, x3, x4, x5, x6⟩ := hrow i gg (by rw [invF_get (by rw [Hrl.out]; omega), if_neg (by omega)]; exact hg)
      have ce : ∀ (k : Nat) (v : Value), cur[k]? = some v → wr.cell? ⟨g, k, none⟩ = some v := fun k v e => by rw [cell_of_row wr g k cur _ (0, 0) hrw]; exact e
      have t0 := ce _ _ x0; have t1 := ce _ _ x1; have t2 := ce _ _ x2; have t3 := ce _ _ x3; have t4 := ce _ _ x4; have t5 := ce _ _ x5
      have gOb : g < Ob := by have := (Hlt2.out g rfl).2; exact this
      have gH : H + 3 ≤ g := (Hlt2.out g rfl).1
      obtain ⟨U, hU⟩ : ∃ U, wr.alloc (.cells #[.int .i64 gg.kind, .int .i64 gg.k, .slice a1 n1 c1, .int .i64 gg.q, .int .i64 gg.bit, .slice a2 n2 c2] 60) = U := ⟨_, rfl⟩
      obtain ⟨Bx, hBx⟩ : ∃ x, wr.heap.size = x := ⟨_, rfl⟩
      have hEU : Ext wr U := by rw [← hU]; exact ext_al _ _
      have bx : OpBx U Bx gg.kind gg.k a1 n1 c1 gg.q gg.bit a2 n2 c2 := by rw [← hU, ← hBx]; exact opbx_new wr _ _ a1 n1 c1 _ _ a2 n2 c2
      have hrwU : U.heap[g]? = some (.cells cur 60 (0, 0)) := (hEU.block g (by have := (Array.getElem?_eq_some_iff.1 hrw).1; exact this)).trans hrw
      have hrowU : RowF U base (fun p => cur[p]?) (invF rops i) := fun t gx hgx => by
        obtain ⟨z1, z2, z3, z4, z5, z6, w0, w1, w2, w3, w4, w5, w6⟩ := hrow t gx hgx
        exact ⟨z1, z2, z3, z4, z5, z6, w0, w1, w2, w3, w4, w5, w6.ext hEU⟩
      have HOp := Lib.hid (fun wx => opposite_any gg.k wx hkr.1 (by omega))
      obtain ⟨ok, hok⟩ : ∃ x, opp gg.k = x := ⟨_, rfl⟩
      rw [hok] at HOp
      have hOs := only1 U.drew g (i * 6 + 1) (.int .i64 ok)
      have hki := only_ints (w := U.drew) (w' := U.drew.setCell ⟨g, i * 6 + 1, none⟩ (.int .i64 ok)) hrwU (by decide) hOs
      have hrz := rowF_undo (w' := U.drew.setCell ⟨g, i * 6 + 1, none⟩ (.int .i64 ok)) Hrl.out (by omega) (by rw [hsz]; omega) hrowU hg (fun _ _ _ _ _ _ _ ho => (ho.ext (cdrew (Ext.refl U))).keep hki)
      rw [hok] at hrz
      have hwz : (U.drew.setCell ⟨g, i * 6 + 1, none⟩ (.int .i64 ok)).heap[g]? = some (.cells (cur.setIfInBounds (i * 6 + 1) (.int .i64 ok)) 60 (0, 0)) := row_put (W := U.drew) hrwU rfl
      have HOz := Lib.hid (opsN_close (base := base) (n := n) (c := cv) (by rw [invF_len]; exact Hrl.out) hbg hwz hnc hcm (by simp [hsz]) (sepF_int hsep) hrz)
      have HRz := Lib.hid (show CiB (U.drew.setCell ⟨g, i * 6 + 1, none⟩ (.int .i64 ok)) (H + 1) 0 0 none 0 0 from ⟨(hOs.block _ (by omega)).trans (bR.ext hEU).drew.row⟩)
      have HFz := Lib.hid (show FtB (U.drew.setCell ⟨g, i * 6 + 1, none⟩ (.int .i64 ok)) (H + 2) 0 0 from ⟨(hOs.block _ (by omega)).trans (bF.ext hEU).drew.row⟩)
      have HBz := Lib.hid (show CiB (U.drew.setCell ⟨g, i * 6 + 1, none⟩ (.int .i64 ok)) Ob qb bi (some ⟨g, 0, none⟩) n cv from ⟨(hOs.block _ (by omega)).trans (bO.ext hEU).drew.row⟩)
      have HXz := Lib.hid (cput (o := i * 6 + 1) (cdrew (hX.trans hEU)) (show w.heap.size ≤ g by omega) (.int .i64 ok))
      have Hsz := Lib.hid (show H + 3 ≤ (U.drew.setCell ⟨g, i * 6 + 1, none⟩ (.int .i64 ok)).heap.size by simp; exact Nat.le_trans hs3 hEU.size)
      have Hso := Lib.hid (show Ob < (U.drew.setCell ⟨g, i * 6 + 1, none⟩ (.int .i64 ok)).heap.size by simp; exact Nat.lt_of_lt_of_le hsO hEU.size)
      have v2 := (bO.ext hEU).x2; have e1 := bx.x1
      have rc1 : U.drew.cell? ⟨g, i * 6 + 1, none⟩ = some (.int .i64 gg.k) := by
        have : U.cell? ⟨g, i * 6 + 1, none⟩ = some (.int .i64 gg.k) := cell_ext t1 hEU
        exact this
      have rf1 : U.drew.frozen? ⟨g, i * 6 + 1, none⟩ = false := frozen_of_row U.drew g _ _ _ hrwU
      have HU := Lib.hid hU
      obtain ⟨kd, kk', ctl, qq, bb, cnd⟩ := gg
      simp only at t0 t1 t3 t4 HOp e1 rc1 HU
      have nOx : Ob ≠ Bx := by omega
      clear hsep hrz hwz hki hOs hrowU hrwU hEU hU bx ce hrow hrw x0 x1 x2 x3 x4 x5 x6 hkr hg hok bR bF bO hO hX hl2 hnc hcm hsz hbg
      go_upto_region 9 with fail
      rw [HU.out]
      clear t0 t1 t2 t3 t4 t5
      refine wp_region_K 8 (fun w' => w'.cell? ⟨Ob, 2, none⟩ = some (.slice (some ⟨g, 0, none⟩) n cv) ∧ w'.cell? ⟨Bx, 1, none⟩ = some (.int .i64 kk')) (by kernel_rfl) ?_
      show anyK _ _ _ _ _ _ 9 #[false, false, false, false, false, false, false, false, false] _ _
      have hHeld : U.drew.cell? ⟨Ob, 2, none⟩ = some (.slice (some ⟨g, 0, none⟩) n cv) ∧ U.drew.cell? ⟨Bx, 1, none⟩ = some (.int .i64 kk') := ⟨v2, e1⟩
      refine anyK_take (i := 0) (v := ?_) rfl (by kernel_rfl) (by kernel_rfl) (by kernel_rfl) (N := 9) (by kernel_rfl) (by kernel_rfl) (by kernel_rfl) (fun _ _ _ h => h) (Or.inl ⟨by rfl, ?_⟩) hHeld ?_
      rotate_left 1
      · intro w hSw
        go_simp
        try with_reducible rfl
      show anyK _ _ _ _ _ _ _ _ (Act.put _ (some 30) _) _
      simp only [Act.put, List.setIfInBounds_toArray, List.set_cons_zero, List.set_cons_succ]
      refine anyK_take (i := 1) (v := ?_) rfl (by kernel_rfl) (by kernel_rfl) (by kernel_rfl) (N := 9) (by kernel_rfl) (by kernel_rfl) (by kernel_rfl) (fun _ _ _ h => h) (Or.inl ⟨by rfl, ?_⟩) hHeld ?_
      rotate_left 1
      · intro w hSw
        go_simp
        try with_reducible rfl
      show anyK _ _ _ _ _ _ _ _ (Act.put _ (some 31) _) _
      simp only [Act.put, List.setIfInBounds_toArray, List.set_cons_zero, List.set_cons_succ]
      refine anyK_take (i := 2) (v := ?_) rfl (by kernel_rfl) (by kernel_rfl) (by kernel_rfl) (N := 9) (by kernel_rfl) (by kernel_rfl) (by kernel_rfl) (fun _ _ _ h => h) (Or.inl ⟨by rfl, ?_⟩) hHeld ?_
      rotate_left 1
      · intro w hSw
        go_simp
        try with_reducible rfl
      show anyK _ _ _ _ _ _ _ _ (Act.put _ (some 32) _) _
      simp only [Act.put, List.setIfInBounds_toArray, List.set_cons_zero, List.set_cons_succ]
      refine anyK_take (i := 3) (v := ?_) rfl (by kernel_rfl) (by kernel_rfl) (by kernel_rfl) (N := 9) (by kernel_rfl) (by kernel_rfl) (by kernel_rfl) (fun _ _ _ h => h) (Or.inl ⟨by rfl, ?_⟩) hHeld ?_
      rotate_left 1
      · intro w hSw
        go_simp
        try with_reducible rfl
      show anyK _ _ _ _ _ _ _ _ (Act.put _ (some 33) _) _
      simp only [Act.put, List.setIfInBounds_toArray, List.set_cons_zero, List.set_cons_succ]
      refine anyK_take (i := 4) (v := ?_) rfl (by kernel_rfl) (by kernel_rfl) (by kernel_rfl) (N := 9) (by kernel_rfl) (by kernel_rfl) (by kernel_rfl) (fun _ _ _ h => h) (Or.inl ⟨by rfl, ?_⟩) hHeld ?_
      rotate_left 1
      · intro w hSw
        go_simp
        try with_reducible rfl
      show anyK _ _ _ _ _ _ _ _ (Act.put _ (some 34) _) _
      simp only [Act.put, List.setIfInBounds_toArray, List.set_cons_zero, List.set_cons_succ]
      clear hHeld
      refine anyK_one (i := 5) (by kernel_rfl) rfl (fun Kk hKk => ?_)
      go_simp
      (go_at_call 42; refine (HOp.out _).mono ?_; rintro e w4 ⟨rfl, rfl⟩)
      go_wp2_with fail
      refine hKk.out _ _ (fun _ => ⟨v2, e1⟩) ?_
      clear hKk Kk
      simp only [List.setIfInBounds_toArray, List.set_cons_zero, List.set_cons_succ]
      have hHeld : U.drew.cell? ⟨Ob, 2, none⟩ = some (.slice (some ⟨g, 0, none⟩) n cv) ∧ U.drew.cell? ⟨Bx, 1, none⟩ = some (.int .i64 kk') := ⟨v2, e1⟩
      refine anyK_take (i := 6) (v := ?_) rfl (by kernel_rfl) (by kernel_rfl) (by kernel_rfl) (N := 9) (by kernel_rfl) (by kernel_rfl) (by kernel_rfl) (fun _ _ _ h => h) (Or.inl ⟨by rfl, ?_⟩) hHeld ?_
      rotate_left 1
      · intro w hSw
        go_simp
        try with_reducible rfl
      show anyK _ _ _ _ _ _ _ _ (Act.put _ (some 36) _) _
      simp only [Act.put, List.setIfInBounds_toArray, List.set_cons_zero, List.set_cons_succ]
      refine anyK_take (i := 7) (v := ?_) rfl (by kernel_rfl) (by kernel_rfl) (by kernel_rfl) (N := 9) (by kernel_rfl) (by kernel_rfl) (by kernel_rfl) (fun _ _ _ h => h) (Or.inl ⟨by rfl, ?_⟩) hHeld ?_
      rotate_left 1
      · intro w hSw
        go_simp
        try with_reducible rfl
      show anyK _ _ _ _ _ _ _ _ (Act.put _ (some 37) _) _
      simp only [Act.put, List.setIfInBounds_toArray, List.set_cons_zero, List.set_cons_succ]
      clear hHeld
      refine anyK_one (i := 8) (by kernel_rfl) rfl (fun Kk hKk => ?_)
      refine stepK_storeN rfl rfl _ _ rfl g (i * 6 + 1) ok (.int .i64 kk') rfl rfl rc1 rf1 ?_
      refine hKk.out _ _ (fun h => Bool.noConfusion (show true = false from h)) ?_
      clear hKk Kk
      simp only [List.setIfInBounds_toArray, List.set_cons_zero, List.set_cons_succ]
      refine anyK_done (by kernel_rfl) ?_ _
      generalize U.drew.setCell ⟨g, i * 6 + 1, none⟩ (.int .i64 ok) = w8 at *
      go_wp2_with fail
      go_roundg (n - (i + 1))
      case measure => omega
      case rel => exact ⟨i + 1, by go_num, by omega, rfl, HRz.out, HFz.out, HBz.out, HOz.out, HXz.out, Hsz.out, Hso.out⟩

end Go.Proofs.YtfjnlopbmkimiaaGreatDoor
