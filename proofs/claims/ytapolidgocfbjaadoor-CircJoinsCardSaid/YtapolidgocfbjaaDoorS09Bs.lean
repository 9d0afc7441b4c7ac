/-
  The program's Then. The program's Power: what it answers lies in memory of its own. What both sides answer, in one form: a circuit in memory of its own, and a fault. The example of a circuit, and its text.
-/
import Derived.Test.YtapolidgocfbjaaDoorProg
import Derived.Test.YtapolidgocfbjaaDoorRows
import Derived.BigQuiet
import Derived.Deep.AppendLies
import Derived.Deep.Cut
import Derived.Deep.CutRange
import Derived.Deep.LoopGhost
import Derived.Deep.QuietTactic
import Derived.Deep.RegionHeld3
import Derived.Defers
import Derived.Laws.AppendOwnNone
import Derived.Laws.Bits64b
import Derived.Laws.Concat
import Derived.Laws.CopyOwn
import Derived.Laws.IdiomStrings
import Derived.Laws.ResultCell
import Derived.Lib.AppendStr
import Derived.Lib.AppendZeros
import Derived.Lib.AppendZerosOnto
import Derived.Lib.BitFns
import Derived.Lib.Hide
import Derived.Lib.ItoaMem
import Derived.Lib.ItoaNum
import Derived.Lib.Strings
import Derived.Maps.AppendAt
import Derived.OwnWalk
import Derived.Recover
import Derived.Shelf.LaysM
import Derived.Shelf.Strconv.Itoa0
import Derived.Shelf.Strconv.Itoa1
import Derived.Shelf.Strconv.Itoa2
import Derived.Shelf.Strconv.Itoa3
import Derived.Shelf.Strings.Builder1
import Derived.Shelf.Strings.BuilderF
import Derived.Shelf.Strings.BuilderK
import Derived.WalkKit
import Derived.WalkLawsBesides
import Derived.WalkSpells
import Derived.Test.YtapolidgocfbjaaDoorS00Ce
import Derived.Test.YtapolidgocfbjaaDoorS01Cj
import Derived.Test.YtapolidgocfbjaaDoorShelf
import Derived.Test.YtapolidgocfbjaaDoorS03Cq
import Derived.Test.YtapolidgocfbjaaDoorS04Jc
import Derived.Test.YtapolidgocfbjaaDoorS05Gb
import Derived.Test.YtapolidgocfbjaaDoorS06Ke
import Derived.Test.YtapolidgocfbjaaDoorS07Kf
import Derived.Test.YtapolidgocfbjaaDoorS08Kd
namespace Go.Proofs.YtapolidgocfbjaaDoor
open Go.RowKit

set_option maxHeartbeats 400000 in
theorem stepK_storeC {ops : Array Oper} {o : Oper} {a : Act} {K : Act → World → Prop} {Q : Exit → Act → World → Prop} {E : Prop} {w : World} (hgd : o.guard = none) (hd : o.dst = none) (p x : Operand)
    (ho : o.op = .store 24 p x) (b : Nat) (qb bi : Int) (a' : Option Addr) (n' c' : Nat) (u0 u1 u2 : Value) (hp : a.eval p = .pointer (some ⟨b, 0, none⟩)) (hx : a.eval x = .agg #[.int .i64 qb, .int .i64 bi, .slice a' n' c'])
    (h0 : w.cell? ⟨b, 0, none⟩ = some u0) (h1 : w.cell? ⟨b, 1, none⟩ = some u1) (h2 : w.cell? ⟨b, 2, none⟩ = some u2) (f0 : w.frozen? ⟨b, 0, none⟩ = false) (f1 : w.frozen? ⟨b, 1, none⟩ = false) (f2 : w.frozen? ⟨b, 2, none⟩ = false)
    (h : K a (((w.setCell ⟨b, 0, none⟩ (.int .i64 qb)).setCell ⟨b, 1, none⟩ (.int .i64 bi)).setCell ⟨b, 2, none⟩ (.slice a' n' c'))) :
    if Region.wanted o (yielded ops a.tmps) = true then Oper.wp Tryd.prog o a w K Q else E := by
  have hw : Region.wanted o (yielded ops a.tmps) = true := by simp [Region.wanted, hgd]
  rw [if_pos hw]
  obtain ⟨od, oo, ot, opp, oa, og⟩ := o
  simp only at ho hd
  subst ho hd
  have HH := Lib.hid h
  clear h
  unfold Oper.wp execOp
  simp only [hp, hx]
  go_simp
  exact HH.out
set_option maxHeartbeats 400000 in
theorem stepK_storeF {ops : Array Oper} {o : Oper} {a : Act} {K : Act → World → Prop} {Q : Exit → Act → World → Prop} {E : Prop} {w : World} (hgd : o.guard = none) (hd : o.dst = none) (p x : Operand)
    (ho : o.op = .store 28 p x) (b : Nat) (s t : Int) (u0 u1 : Value) (hp : a.eval p = .pointer (some ⟨b, 0, none⟩)) (hx : a.eval x = .agg #[.int .i64 s, .int .i64 t])
    (h0 : w.cell? ⟨b, 0, none⟩ = some u0) (h1 : w.cell? ⟨b, 1, none⟩ = some u1) (f0 : w.frozen? ⟨b, 0, none⟩ = false) (f1 : w.frozen? ⟨b, 1, none⟩ = false)
    (h : K a ((w.setCell ⟨b, 0, none⟩ (.int .i64 s)).setCell ⟨b, 1, none⟩ (.int .i64 t))) :
    if Region.wanted o (yielded ops a.tmps) = true then Oper.wp Tryd.prog o a w K Q else E := by
  have hw : Region.wanted o (yielded ops a.tmps) = true := by simp [Region.wanted, hgd]
  rw [if_pos hw]
  obtain ⟨od, oo, ot, opp, oa, og⟩ := o
  simp only at ho hd
  subst ho hd
  have HH := Lib.hid h
  clear h
  unfold Oper.wp execOp
  simp only [hp, hx]
  go_simp
  exact HH.out

set_option maxHeartbeats 8000000 in
set_option maxRecDepth 100000 in
theorem Then_any (a b : Gci) (ao : Option Addr) (n cp : Nat) (bo : Option Addr) (m cq : Nat) (w : World) (hA : OpsAt w ao n a.ops) (hB : OpsAt w bo m b.ops) (hn : n ≤ cp) (hcp : cp ≤ 9223372036854775807) (hm : m ≤ cq) (hcq : cq ≤ 9223372036854775807) (hna : ao = none → cp = 0) (hnb : bo = none → cq = 0) (hS : Shp w) :
    Calls Tryd.prog 19 #[.agg #[.int .i64 a.qubits, .int .i64 a.bits, .slice ao n cp], .agg #[.int .i64 b.qubits, .int .i64 b.bits, .slice bo m cq]] w fun e w' => (((thnF a b).1 ≠ 0 ∧ e = .returned (.tuple #[.agg #[.int .i64 0, .int .i64 0, .slice none 0 0], .agg #[.int .i64 (thnF a b).1, .int .i64 (thnF a b).2]])) ∨
      ((thnF a b).1 = 0 ∧ ∃ (a' : Option Addr) (c' : Nat), e = .returned (.tuple #[.agg #[.int .i64 a.qubits, .int .i64 a.bits, .slice a' (n + m) c'], .agg #[.int .i64 0, .int .i64 0]]) ∧ OpsN w' w.heap.size (.slice a' (n + m) c') (a.ops ++ b.ops))) ∧ Ext w w' := by
  obtain ⟨qa, ba, opsA⟩ := a
  obtain ⟨qb, bb, opsB⟩ := b
  simp only at hA hB ⊢
  have hlA : opsA.length = n := hA.1
  have hlB : opsB.length = m := hB.1
  obtain ⟨H, hH⟩ : ∃ H, w.heap.size = H := ⟨_, rfl⟩
  obtain ⟨A1, hA1⟩ : ∃ A1, w.alloc (.cells #[.int .i64 qa, .int .i64 ba, .slice ao n cp] 24) = A1 := ⟨_, rfl⟩
  obtain ⟨A2, hA2⟩ : ∃ A2, A1.alloc (.cells #[.int .i64 qb, .int .i64 bb, .slice bo m cq] 24) = A2 := ⟨_, rfl⟩
  obtain ⟨A3, hA3⟩ : ∃ A3, A2.alloc (.cells #[.int .i64 0, .int .i64 0, .slice none 0 0] 24) = A3 := ⟨_, rfl⟩
  obtain ⟨A4, hA4⟩ : ∃ A4, A3.alloc (.cells #[.int .i64 0, .int .i64 0] 28) = A4 := ⟨_, rfl⟩
  have s1 : A1.heap.size = H + 1 := by rw [← hA1, ← hH]; simp
  have s2 : A2.heap.size = H + 2 := by rw [← hA2]; simp; omega
  have s3 : A3.heap.size = H + 3 := by rw [← hA3]; simp; omega
  have s4 : A4.heap.size = H + 4 := by rw [← hA4]; simp; omega
  have x1 : Ext w A1 := by rw [← hA1]; exact ext_al _ _
  have x2 : Ext A1 A2 := by rw [← hA2]; exact ext_al _ _
  have x3 : Ext A2 A3 := by rw [← hA3]; exact ext_al _ _
  have x4 : Ext A3 A4 := by rw [← hA4]; exact ext_al _ _
  have bA : CiB A4 H qa ba ao n cp := by
    have : CiB A1 H qa ba ao n cp := by rw [← hA1, ← hH]; exact ⟨heap_alloc_new w _⟩
    exact ((this.ext x2).ext x3).ext x4
  have bB : CiB A4 (H + 1) qb bb bo m cq := by
    have : CiB A2 (H + 1) qb bb bo m cq := by rw [← hA2, ← s1]; exact ⟨heap_alloc_new A1 _⟩
    exact (this.ext x3).ext x4
  have bR : CiB A4 (H + 2) 0 0 none 0 0 := by
    have : CiB A3 (H + 2) 0 0 none 0 0 := by rw [← hA3, ← s2]; exact ⟨heap_alloc_new A2 _⟩
    exact this.ext x4
  have bF : FtB A4 (H + 3) 0 0 := by rw [← hA4, ← s3]; exact ⟨heap_alloc_new A3 _⟩
  have E0 : Ext w A4 := ((x1.trans x2).trans x3).trans x4
  have hAA : (((w.alloc (.cells #[.int .i64 qa, .int .i64 ba, .slice ao n cp] 24)).alloc (.cells #[.int .i64 qb, .int .i64 bb, .slice bo m cq] 24)).alloc (.cells #[.int .i64 0, .int .i64 0, .slice none 0 0] 24)).alloc (.cells #[.int .i64 0, .int .i64 0] 28) = A4 := by rw [hA1, hA2, hA3, hA4]
  have m0 := bA.x0; have m1 := bA.x1; have m2 := bA.x2
  rw [← hAA] at m0 m1 m2
  have HAA := Lib.hid hAA; have HE0 := Lib.hid E0; have HbA0 := Lib.hid bA; have HbB0 := Lib.hid bB; have HbR0 := Lib.hid bR; have HbF0 := Lib.hid bF; have Hs4 := Lib.hid s4; have HhH := Lib.hid hH
  have HKa := Lib.hid (fun wx (hx : Ext w wx) => Check_any ⟨qa, ba, opsA⟩ ao n cp wx (hA.ext hx) hn hcp (hS.ext hx))
  have HKb := Lib.hid (fun wx (hx : Ext w wx) => Check_any ⟨qb, bb, opsB⟩ bo m cq wx (hB.ext hx) hm hcq (hS.ext hx))
  simp only at HKa HKb
  have HlA := Lib.hid hlA; have HlB := Lib.hid hlB; have HopA := Lib.hid hA; have HopB := Lib.hid hB
  obtain ⟨FA, hFA⟩ : ∃ F, chk ⟨qa, ba, opsA⟩ = F := ⟨_, rfl⟩
  obtain ⟨FB, hFB⟩ : ∃ F, chk ⟨qb, bb, opsB⟩ = F := ⟨_, rfl⟩
  have hzA : FA.1 = 0 → FA.2 = 0 := fun h => by rw [← hFA] at h ⊢; rw [(chk_zero h).1]
  have hzB : FB.1 = 0 → FB.2 = 0 := fun h => by rw [← hFB] at h ⊢; rw [(chk_zero h).1]
  have hbA : FA.1 = 0 → n ≤ 4096 ∧ ∀ g ∈ opsA, g.ctl.length ≤ 1000 ∧ g.cnd.length ≤ 1000 := fun h => by
    rw [← hFA] at h
    obtain ⟨_, h1, h2, h3, h4, h5, h6⟩ := chk_zero h
    simp only at h1 h2 h3 h4 h5 h6
    refine ⟨by omega, fun g hg => ?_⟩
    have f := prFit_of_code h2 h3 h4 (h6 g hg)
    exact ⟨Nat.le_trans f.few (by decide), Nat.le_trans f.cfew (by decide)⟩
  have hbB : FB.1 = 0 → m ≤ 4096 ∧ ∀ g ∈ opsB, g.ctl.length ≤ 1000 ∧ g.cnd.length ≤ 1000 := fun h => by
    rw [← hFB] at h
    obtain ⟨_, h1, h2, h3, h4, h5, h6⟩ := chk_zero h
    simp only at h1 h2 h3 h4 h5 h6
    refine ⟨by omega, fun g hg => ?_⟩
    have f := prFit_of_code h2 h3 h4 (h6 g hg)
    exact ⟨Nat.le_trans f.few (by decide), Nat.le_trans f.cfew (by decide)⟩
  have hTd : thnF ⟨qa, ba, opsA⟩ ⟨qb, bb, opsB⟩ = if FA.1 ≠ 0 then FA else if FB.1 ≠ 0 then FB else if qa ≠ qb ∨ ba ≠ bb then (16, 0) else if 4096 < n + m then (2, 0) else (0, 0) := by
    unfold thnF
    rw [hFA, hFB]
    simp only [hlA, hlB]
  rw [hFA] at HKa
  rw [hFB] at HKb
  obtain ⟨ua, va⟩ := FA
  obtain ⟨ub, vb⟩ := FB
  simp only at hTd HKa HKb hzA hzB hbA hbB
  have HTd := Lib.hid hTd; have HzA := Lib.hid hzA; have HzB := Lib.hid hzB; have HbA' := Lib.hid hbA; have HbB' := Lib.hid hbB; have Hna := Lib.hid hna; have Hnb := Lib.hid hnb
  have k0 := bB.x0; have k1 := bB.x1; have k2 := bB.x2
  rw [← hAA] at k0 k1 k2
  have HRow := Lib.hid (show ∀ j u, ([.int .i64 qa, .int .i64 ba, .slice ao n cp, .int .i64 qb, .int .i64 bb, .slice bo m cq] : List Value)[j]? = some u → (A4.alloc (.cells #[.int .i64 qa, .int .i64 ba, .slice ao n cp, .int .i64 qb, .int .i64 bb, .slice bo m cq] 24)).cell? ⟨A4.heap.size, j, none⟩ = some u from fun j u hu => by
    rw [cell_of_row _ _ j _ _ (0, 0) (heap_alloc_new A4 _)]
    simpa using hu)
  have Er := ext_al A4 (.cells #[.int .i64 qa, .int .i64 ba, .slice ao n cp, .int .i64 qb, .int .i64 bb, .slice bo m cq] 24)
  have HA0 := Lib.hid (bA.ext Er); have HB0 := Lib.hid (bB.ext Er); have HR0 := Lib.hid (bR.ext Er); have HF0 := Lib.hid (bF.ext Er); have HEW := Lib.hid (E0.trans Er)
  have HsW := Lib.hid (show (A4.alloc (.cells #[.int .i64 qa, .int .i64 ba, .slice ao n cp, .int .i64 qb, .int .i64 bb, .slice bo m cq] 24)).heap.size = H + 5 by simp; omega)
  clear hTd hFA hFB hzA hzB hbA hbB hna hnb Er
  clear hA hB E0 bA bB bR bF x1 x2 x3 x4 s1 s2 s3 hA1 hA2 hA3 hA4 hAA hlA hlB hS HE0 HbA0 HbB0 HbR0 HbF0
  go_enter Tryd.func19, Tryd.ntmps19
  go_wp2_with fail
  rw [HAA.out]
  rw [s4] at HRow
  clear m0 m1 m2 k0 k1 k2 s4
  generalize A4.alloc (.cells #[.int .i64 qa, .int .i64 ba, .slice ao n cp, .int .i64 qb, .int .i64 bb, .slice bo m cq] 24) = W0 at *
  have HE0 := HEW
  have hrow : ∀ wx, Ext W0 wx → ∀ j u, ([.int .i64 qa, .int .i64 ba, .slice ao n cp, .int .i64 qb, .int .i64 bb, .slice bo m cq] : List Value)[j]? = some u → wx.cell? ⟨H + 4, j, none⟩ = some u := fun wx hx j u hu => cell_ext (HRow.out j u hu) hx
  go_loopg [7, 8, 13] 2 (fun kk s7 s8 s13 wx => ∃ i : Nat, s13 = .int .i64 (i : Int) ∧ i ≤ 2 ∧ 2 - i = kk ∧ Ext W0 wx ∧ (1 ≤ i → ua = 0) ∧ (2 ≤ i → ub = 0))
  case atStart => exact ⟨0, rfl, by omega, by omega, Ext.refl _, fun h => by omega, fun h => by omega⟩
  case round =>
    obtain ⟨i, rfl, hi2, hk, hX, hz1, hz2⟩ := hrel
    by_cases hi : i = 2
    rotate_left 1
    rcases (show i = 0 ∨ i = 1 by omega) with h4 | h4
    · subst h4
      have bc : CiB (wr.alloc (.cells #[.int .i64 qa, .int .i64 ba, .slice ao n cp] 24)) wr.heap.size qa ba ao n cp := ⟨heap_alloc_new wr _⟩
      have Ec := ext_al wr (.cells #[.int .i64 qa, .int .i64 ba, .slice ao n cp] 24)
      have c0 := bc.x0; have c1 := bc.x1; have c2 := bc.x2
      have HXc := Lib.hid (hX.trans Ec)
      have hr := hrow wr hX
      have d0 := hr 0 (.int .i64 qa) rfl; have d1 := hr 1 (.int .i64 ba) rfl; have d2 := hr 2 (.slice ao n cp) rfl
      clear hr hX Ec bc
      go_wp2_with fail
      generalize wr.alloc (.cells #[.int .i64 qa, .int .i64 ba, .slice ao n cp] 24) = V1 at *
      refine (HKa.out V1 (HE0.out.trans HXc.out)).mono ?_
      rintro e w4 ⟨rfl, hx4⟩
      clear c0 c1 c2 d0 d1 d2
      have Ef := ext_al w4 (.cells #[.int .i64 ua, .int .i64 va] 28)
      have hX5 := (HXc.out.trans hx4).trans Ef
      have bf : FtB (w4.alloc (.cells #[.int .i64 ua, .int .i64 va] 28)) w4.heap.size ua va := ⟨heap_alloc_new w4 _⟩
      have d0 := bf.x0; have d1 := bf.x1
      have HX5 := Lib.hid hX5; have Hsz := Lib.hid (show H + 4 < w4.heap.size by have h1 := (HXc.out.trans hx4).size; have h2 := HsW.out; omega)
      clear hx4 Ef hX5 bf HXc
      by_cases hu : ua = 0
      rotate_left 1
      · have nu := nt hu
        have HTn := Lib.hid (show (thnF ⟨qa, ba, opsA⟩ ⟨qb, bb, opsB⟩).1 ≠ 0 by rw [HTd.out]; rw [if_pos hu]; exact hu)
        have HT := Lib.hid (show thnF ⟨qa, ba, opsA⟩ ⟨qb, bb, opsB⟩ = (ua, va) by rw [HTd.out]; rw [if_pos hu])
        have HbR := Lib.hid (HR0.out.ext HX5.out); have HbF := Lib.hid (HF0.out.ext HX5.out); have HbE := Lib.hid (HE0.out.trans HX5.out)
        have n1 : w4.heap.size ≠ H + 2 := by have := Hsz.out; omega
        have n2 : w4.heap.size ≠ H + 3 := by have := Hsz.out; omega
        clear hu
        go_upto_region 5 with fail
        generalize w4.alloc (.cells #[.int .i64 ua, .int .i64 va] 28) = V2 at *
        obtain ⟨Fb, hFb⟩ : ∃ y, w4.heap.size = y := ⟨_, rfl⟩
        rw [hFb] at n1 n2 d0 d1 ⊢
        clear hFb
        have r0 := HbR.out.x0; have r1 := HbR.out.x1; have r2 := HbR.out.x2; have g0 := HbR.out.f 0; have g1 := HbR.out.f 1; have g2 := HbR.out.f 2
        have f0 := HbF.out.x0; have f1 := HbF.out.x1; have k0 := HbF.out.f 0; have k1 := HbF.out.f 1
        have zC := (putCF_C HbR.out (show H + 2 ≠ H + 3 by omega) 0 0 none 0 0 ua va).drew
        have zF := (putCF_F HbF.out (show H + 2 ≠ H + 3 by omega) 0 0 none 0 0 ua va).drew
        have zE : Ext w (putCF V2 (H + 2) (H + 3) 0 0 none 0 0 ua va).drew := Below.drew (putCF_ext HbE.out (show w.heap.size ≤ H + 2 by omega) (show w.heap.size ≤ H + 3 by omega) _ _ _ _ _ _ _)
        obtain ⟨Wz, hWz⟩ : ∃ Wz, putCF V2 (H + 2) (H + 3) 0 0 none 0 0 ua va = Wz := ⟨_, rfl⟩
        rw [hWz] at zC zF zE
        unfold putCF at hWz
        have HWz := Lib.hid hWz; have HzE := Lib.hid zE
        have v0 := zC.x0; have v1 := zC.x1; have v2 := zC.x2; have v3 := zF.x0; have v4 := zF.x1
        clear zC zF zE hWz
        go_upto_region 6 with fail
        go_region
        go_wp2_with fail
        rw [HWz.out]
        exact bodyPost_ret (v := .tuple #[.agg #[.int .i64 0, .int .i64 0, .slice none 0 0], .agg #[.int .i64 ua, .int .i64 va]]) (by simp [results, Tryd.results19, go_sem, v0, v1, v2, v3, v4]) rfl ⟨Or.inl ⟨HTn.out, by rw [HT.out]⟩, HzE.out⟩
      · have nu := nf' hu
        have Hu := Lib.hid hu
        clear hu
        go_wp2_with fail
        go_roundg (2 - 1)
        case measure => omega
        case rel => exact ⟨1, by go_num, by omega, rfl, HX5.out, fun _ => Hu.out, fun h => by omega⟩
    · subst h4
      have hua := hz1 (by omega)
      have Hua := Lib.hid hua
      clear hua hz1 hz2
      have bc : CiB (wr.alloc (.cells #[.int .i64 qb, .int .i64 bb, .slice bo m cq] 24)) wr.heap.size qb bb bo m cq := ⟨heap_alloc_new wr _⟩
      have Ec := ext_al wr (.cells #[.int .i64 qb, .int .i64 bb, .slice bo m cq] 24)
      have c0 := bc.x0; have c1 := bc.x1; have c2 := bc.x2
      have HXc := Lib.hid (hX.trans Ec)
      have hr := hrow wr hX
      have d0 := hr 3 (.int .i64 qb) rfl; have d1 := hr 4 (.int .i64 bb) rfl; have d2 := hr 5 (.slice bo m cq) rfl
      clear hr hX Ec bc
      go_wp2_with fail
      generalize wr.alloc (.cells #[.int .i64 qb, .int .i64 bb, .slice bo m cq] 24) = V1 at *
      refine (HKb.out V1 (HE0.out.trans HXc.out)).mono ?_
      rintro e w4 ⟨rfl, hx4⟩
      clear c0 c1 c2 d0 d1 d2
      have Ef := ext_al w4 (.cells #[.int .i64 ub, .int .i64 vb] 28)
      have hX5 := (HXc.out.trans hx4).trans Ef
      have bf : FtB (w4.alloc (.cells #[.int .i64 ub, .int .i64 vb] 28)) w4.heap.size ub vb := ⟨heap_alloc_new w4 _⟩
      have d0 := bf.x0; have d1 := bf.x1
      have HX5 := Lib.hid hX5; have Hsz := Lib.hid (show H + 4 < w4.heap.size by have h1 := (HXc.out.trans hx4).size; have h2 := HsW.out; omega)
      clear hx4 Ef hX5 bf HXc
      by_cases hu : ub = 0
      rotate_left 1
      · have nu := nt hu
        have HTn := Lib.hid (show (thnF ⟨qa, ba, opsA⟩ ⟨qb, bb, opsB⟩).1 ≠ 0 by rw [HTd.out]; rw [if_neg (by rw [Hua.out]; simp), if_pos hu]; exact hu)
        have HT := Lib.hid (show thnF ⟨qa, ba, opsA⟩ ⟨qb, bb, opsB⟩ = (ub, vb) by rw [HTd.out]; rw [if_neg (by rw [Hua.out]; simp), if_pos hu])
        have HbR := Lib.hid (HR0.out.ext HX5.out); have HbF := Lib.hid (HF0.out.ext HX5.out); have HbE := Lib.hid (HE0.out.trans HX5.out)
        have n1 : w4.heap.size ≠ H + 2 := by have := Hsz.out; omega
        have n2 : w4.heap.size ≠ H + 3 := by have := Hsz.out; omega
        clear hu
        go_upto_region 5 with fail
        generalize w4.alloc (.cells #[.int .i64 ub, .int .i64 vb] 28) = V2 at *
        obtain ⟨Fb, hFb⟩ : ∃ y, w4.heap.size = y := ⟨_, rfl⟩
        rw [hFb] at n1 n2 d0 d1 ⊢
        clear hFb
        have r0 := HbR.out.x0; have r1 := HbR.out.x1; have r2 := HbR.out.x2; have g0 := HbR.out.f 0; have g1 := HbR.out.f 1; have g2 := HbR.out.f 2
        have f0 := HbF.out.x0; have f1 := HbF.out.x1; have k0 := HbF.out.f 0; have k1 := HbF.out.f 1
        have zC := (putCF_C HbR.out (show H + 2 ≠ H + 3 by omega) 0 0 none 0 0 ub vb).drew
        have zF := (putCF_F HbF.out (show H + 2 ≠ H + 3 by omega) 0 0 none 0 0 ub vb).drew
        have zE : Ext w (putCF V2 (H + 2) (H + 3) 0 0 none 0 0 ub vb).drew := Below.drew (putCF_ext HbE.out (show w.heap.size ≤ H + 2 by omega) (show w.heap.size ≤ H + 3 by omega) _ _ _ _ _ _ _)
        obtain ⟨Wz, hWz⟩ : ∃ Wz, putCF V2 (H + 2) (H + 3) 0 0 none 0 0 ub vb = Wz := ⟨_, rfl⟩
        rw [hWz] at zC zF zE
        unfold putCF at hWz
        have HWz := Lib.hid hWz; have HzE := Lib.hid zE
        have v0 := zC.x0; have v1 := zC.x1; have v2 := zC.x2; have v3 := zF.x0; have v4 := zF.x1
        clear zC zF zE hWz
        go_upto_region 6 with fail
        go_region
        go_wp2_with fail
        rw [HWz.out]
        exact bodyPost_ret (v := .tuple #[.agg #[.int .i64 0, .int .i64 0, .slice none 0 0], .agg #[.int .i64 ub, .int .i64 vb]]) (by simp [results, Tryd.results19, go_sem, v0, v1, v2, v3, v4]) rfl ⟨Or.inl ⟨HTn.out, by rw [HT.out]⟩, HzE.out⟩
      · have nu := nf' hu
        have Hu := Lib.hid hu
        clear hu
        go_wp2_with fail
        go_roundg (2 - 2)
        case measure => omega
        case rel => exact ⟨2, by go_num, by omega, rfl, HX5.out, fun _ => Hua.out, fun _ => Hu.out⟩
    subst hi
    have hua := hz1 (by omega); have hub := hz2 (by omega)
    have hva := HzA.out hua; have hvb := HzB.out hub
    have hTd := HTd.out
    rw [if_neg (by rw [hua]; simp), if_neg (by rw [hub]; simp)] at hTd
    obtain ⟨hn4, hfA⟩ := HbA'.out hua
    obtain ⟨hm4, hfB⟩ := HbB'.out hub
    have HA1 := Lib.hid (HA0.out.ext hX); have HB1 := Lib.hid (HB0.out.ext hX); have HbR := Lib.hid (HR0.out.ext hX); have HbF := Lib.hid (HF0.out.ext hX); have HbE := Lib.hid (HE0.out.trans hX)
    have HfA := Lib.hid hfA; have HfB := Lib.hid hfB
    have HsX := Lib.hid (show H + 5 ≤ wr.heap.size by rw [← HsW.out]; exact hX.size)
    have l0 := HA1.out.x0; have l1 := HA1.out.x1; have l2 := HA1.out.x2; have j0 := HB1.out.x0; have j1 := HB1.out.x1; have j2 := HB1.out.x2
    clear hX hz1 hz2 hfA hfB hua hub hva hvb HKa HKb hrow
    by_cases hq : qa = qb
    rotate_left 1
    · have hq1 := nt' hq; have hq2 := bf' hq
      rw [if_pos (Or.inl hq)] at hTd
      have HT := Lib.hid hTd; have HTn := Lib.hid (show (thnF ⟨qa, ba, opsA⟩ ⟨qb, bb, opsB⟩).1 ≠ 0 by rw [hTd]; decide)
      clear hq hTd
      have r0 := HbR.out.x0; have r1 := HbR.out.x1; have r2 := HbR.out.x2; have g0 := HbR.out.f 0; have g1 := HbR.out.f 1; have g2 := HbR.out.f 2
      have f0 := HbF.out.x0; have f1 := HbF.out.x1; have k0 := HbF.out.f 0; have k1 := HbF.out.f 1
      have zC := (putCF_C HbR.out (show H + 2 ≠ H + 3 by omega) 0 0 none 0 0 16 0)
      have zF := (putCF_F HbF.out (show H + 2 ≠ H + 3 by omega) 0 0 none 0 0 16 0)
      have zE : Ext w (putCF wr (H + 2) (H + 3) 0 0 none 0 0 16 0) := (putCF_ext HbE.out (show w.heap.size ≤ H + 2 by omega) (show w.heap.size ≤ H + 3 by omega) _ _ _ _ _ _ _)
      obtain ⟨Wz, hWz⟩ : ∃ Wz, putCF wr (H + 2) (H + 3) 0 0 none 0 0 16 0 = Wz := ⟨_, rfl⟩
      rw [hWz] at zC zF zE
      unfold putCF at hWz
      have HWz := Lib.hid hWz; have HzE := Lib.hid zE
      have v0 := zC.x0; have v1 := zC.x1; have v2 := zC.x2; have v3 := zF.x0; have v4 := zF.x1
      clear zC zF zE hWz
      go_wp2_with fail
      rw [HWz.out]
      exact bodyPost_ret (v := .tuple #[.agg #[.int .i64 0, .int .i64 0, .slice none 0 0], .agg #[.int .i64 16, .int .i64 0]]) (by simp [results, Tryd.results19, go_sem, v0, v1, v2, v3, v4]) rfl ⟨Or.inl ⟨HTn.out, by rw [HT.out]⟩, HzE.out⟩
    by_cases hb : ba = bb
    rotate_left 1
    · have hb1 := nt' hb; have hb2 := bf' hb
      have hq1 := ne_f hq; have hq2 := eq_t hq
      rw [if_pos (Or.inr hb)] at hTd
      have HT := Lib.hid hTd; have HTn := Lib.hid (show (thnF ⟨qa, ba, opsA⟩ ⟨qb, bb, opsB⟩).1 ≠ 0 by rw [hTd]; decide)
      clear hq hb hTd
      have r0 := HbR.out.x0; have r1 := HbR.out.x1; have r2 := HbR.out.x2; have g0 := HbR.out.f 0; have g1 := HbR.out.f 1; have g2 := HbR.out.f 2
      have f0 := HbF.out.x0; have f1 := HbF.out.x1; have k0 := HbF.out.f 0; have k1 := HbF.out.f 1
      have zC := (putCF_C HbR.out (show H + 2 ≠ H + 3 by omega) 0 0 none 0 0 16 0)
      have zF := (putCF_F HbF.out (show H + 2 ≠ H + 3 by omega) 0 0 none 0 0 16 0)
      have zE : Ext w (putCF wr (H + 2) (H + 3) 0 0 none 0 0 16 0) := (putCF_ext HbE.out (show w.heap.size ≤ H + 2 by omega) (show w.heap.size ≤ H + 3 by omega) _ _ _ _ _ _ _)
      obtain ⟨Wz, hWz⟩ : ∃ Wz, putCF wr (H + 2) (H + 3) 0 0 none 0 0 16 0 = Wz := ⟨_, rfl⟩
      rw [hWz] at zC zF zE
      unfold putCF at hWz
      have HWz := Lib.hid hWz; have HzE := Lib.hid zE
      have v0 := zC.x0; have v1 := zC.x1; have v2 := zC.x2; have v3 := zF.x0; have v4 := zF.x1
      clear zC zF zE hWz
      go_wp2_with fail
      rw [HWz.out]
      exact bodyPost_ret (v := .tuple #[.agg #[.int .i64 0, .int .i64 0, .slice none 0 0], .agg #[.int .i64 16, .int .i64 0]]) (by simp [results, Tryd.results19, go_sem, v0, v1, v2, v3, v4]) rfl ⟨Or.inl ⟨HTn.out, by rw [HT.out]⟩, HzE.out⟩
    rw [if_neg (by simp [hq, hb])] at hTd
    have hb1 := ne_f hb; have hb2 := eq_t hb; have hq1 := ne_f hq; have hq2 := eq_t hq
    clear hq hb
    have wl : IntKind.i64.wrap ((n : Int) + (m : Int)) = ((n + m : Nat) : Int) := by rw [IntKind.wrap_i64]; omega
    by_cases hlong : 4096 < n + m
    · have p9 : (4096 : Int) < ((n + m : Nat) : Int) := by omega
      have p9' : decide ((4096 : Int) < ((n + m : Nat) : Int)) = true := dt p9
      obtain ⟨nm, hnm⟩ : ∃ y : Int, ((n + m : Nat) : Int) = y := ⟨_, rfl⟩
      rw [hnm] at wl p9 p9'
      rw [if_pos hlong] at hTd
      have HT := Lib.hid hTd; have HTn := Lib.hid (show (thnF ⟨qa, ba, opsA⟩ ⟨qb, bb, opsB⟩).1 ≠ 0 by rw [hTd]; decide)
      clear hTd hnm hlong
      have r0 := HbR.out.x0; have r1 := HbR.out.x1; have r2 := HbR.out.x2; have g0 := HbR.out.f 0; have g1 := HbR.out.f 1; have g2 := HbR.out.f 2
      have f0 := HbF.out.x0; have f1 := HbF.out.x1; have k0 := HbF.out.f 0; have k1 := HbF.out.f 1
      have zC := (putCF_C HbR.out (show H + 2 ≠ H + 3 by omega) 0 0 none 0 0 2 0)
      have zF := (putCF_F HbF.out (show H + 2 ≠ H + 3 by omega) 0 0 none 0 0 2 0)
      have zE : Ext w (putCF wr (H + 2) (H + 3) 0 0 none 0 0 2 0) := (putCF_ext HbE.out (show w.heap.size ≤ H + 2 by omega) (show w.heap.size ≤ H + 3 by omega) _ _ _ _ _ _ _)
      obtain ⟨Wz, hWz⟩ : ∃ Wz, putCF wr (H + 2) (H + 3) 0 0 none 0 0 2 0 = Wz := ⟨_, rfl⟩
      rw [hWz] at zC zF zE
      unfold putCF at hWz
      have HWz := Lib.hid hWz; have HzE := Lib.hid zE
      have v0 := zC.x0; have v1 := zC.x1; have v2 := zC.x2; have v3 := zF.x0; have v4 := zF.x1
      clear zC zF zE hWz
      go_wp2_with fail
      rw [HWz.out]
      exact bodyPost_ret (v := .tuple #[.agg #[.int .i64 0, .int .i64 0, .slice none 0 0], .agg #[.int .i64 2, .int .i64 0]]) (by simp [results, Tryd.results19, go_sem, v0, v1, v2, v3, v4]) rfl ⟨Or.inl ⟨HTn.out, by rw [HT.out]⟩, HzE.out⟩
    have p9 : ¬ (4096 : Int) < ((n + m : Nat) : Int) := by omega
    have p9' : decide ((4096 : Int) < ((n + m : Nat) : Int)) = false := df p9
    obtain ⟨nmi, hnm⟩ : ∃ y : Int, ((n + m : Nat) : Int) = y := ⟨_, rfl⟩
    rw [hnm] at wl p9 p9'
    rw [if_neg hlong] at hTd
    have HTz := Lib.hid (show (thnF ⟨qa, ba, opsA⟩ ⟨qb, bb, opsB⟩).1 = 0 by rw [hTd])
    have HopA1 := Lib.hid (HopA.out.ext HbE.out); have HopB1 := Lib.hid (HopB.out.ext HbE.out)
    clear hTd hnm
    go_upto_region 12 with fail
    clear hb1 hb2 hq1 hq2 wl p9 p9'
    have hd0 : Ext wr wr.drew := Below.drew (Ext.refl _)
    refine wp_region_K 10 (fun w' => (w'.cell? ⟨H, 0, none⟩ = some (.int .i64 qa) ∧ w'.cell? ⟨H, 1, none⟩ = some (.int .i64 ba) ∧ w'.cell? ⟨H, 2, none⟩ = some (.slice ao n cp)) ∧ w'.cell? ⟨H + 1, 2, none⟩ = some (.slice bo m cq)) (by kernel_rfl) ?_
    show anyK _ _ _ _ _ _ 11 #[false, false, false, false, false, false, false, false, false, false, false] _ _
    have hHeld : (wr.drew.cell? ⟨H, 0, none⟩ = some (.int .i64 qa) ∧ wr.drew.cell? ⟨H, 1, none⟩ = some (.int .i64 ba) ∧ wr.drew.cell? ⟨H, 2, none⟩ = some (.slice ao n cp)) ∧ wr.drew.cell? ⟨H + 1, 2, none⟩ = some (.slice bo m cq) := ⟨⟨l0, l1, l2⟩, j2⟩
    refine anyK_take (i := 0) (v := ?_) rfl (by kernel_rfl) (by kernel_rfl) (by kernel_rfl) (N := 11) (by kernel_rfl) (by kernel_rfl) (by kernel_rfl) (fun _ _ _ h => h) (Or.inl ⟨by rfl, ?_⟩) hHeld ?_
    rotate_left 1
    · intro w hSw
      go_simp
      try with_reducible rfl
    show anyK _ _ _ _ _ _ _ _ (Act.put _ (some 51) _) _
    simp only [Act.put, List.setIfInBounds_toArray, List.set_cons_zero, List.set_cons_succ]
    refine anyK_take (i := 1) (v := ?_) rfl (by kernel_rfl) (by kernel_rfl) (by kernel_rfl) (N := 11) (by kernel_rfl) (by kernel_rfl) (by kernel_rfl) (fun _ _ _ h => h) (Or.inl ⟨by rfl, ?_⟩) hHeld ?_
    rotate_left 1
    · intro w hSw
      go_simp
      try with_reducible rfl
    show anyK _ _ _ _ _ _ _ _ (Act.put _ (some 52) _) _
    simp only [Act.put, List.setIfInBounds_toArray, List.set_cons_zero, List.set_cons_succ]
    refine anyK_take (i := 2) (v := ?_) rfl (by kernel_rfl) (by kernel_rfl) (by kernel_rfl) (N := 11) (by kernel_rfl) (by kernel_rfl) (by kernel_rfl) (fun _ _ _ h => h) (Or.inl ⟨by rfl, ?_⟩) hHeld ?_
    rotate_left 1
    · intro w hSw
      go_simp
      try with_reducible rfl
    show anyK _ _ _ _ _ _ _ _ (Act.put _ (some 53) _) _
    simp only [Act.put, List.setIfInBounds_toArray, List.set_cons_zero, List.set_cons_succ]
    refine anyK_take (i := 3) (v := ?_) rfl (by kernel_rfl) (by kernel_rfl) (by kernel_rfl) (N := 11) (by kernel_rfl) (by kernel_rfl) (by kernel_rfl) (fun _ _ _ h => h) (Or.inl ⟨by rfl, ?_⟩) hHeld ?_
    rotate_left 1
    · intro w hSw
      go_simp
      try with_reducible rfl
    show anyK _ _ _ _ _ _ _ _ (Act.put _ (some 54) _) _
    simp only [Act.put, List.setIfInBounds_toArray, List.set_cons_zero, List.set_cons_succ]
    refine anyK_take (i := 4) (v := ?_) rfl (by kernel_rfl) (by kernel_rfl) (by kernel_rfl) (N := 11) (by kernel_rfl) (by kernel_rfl) (by kernel_rfl) (fun _ _ _ h => h) (Or.inl ⟨by rfl, ?_⟩) hHeld ?_
    rotate_left 1
    · intro w hSw
      go_simp
      try with_reducible rfl
    show anyK _ _ _ _ _ _ _ _ (Act.put _ (some 55) _) _
    simp only [Act.put, List.setIfInBounds_toArray, List.set_cons_zero, List.set_cons_succ]
    refine anyK_take (i := 8) (v := ?_) rfl (by kernel_rfl) (by kernel_rfl) (by kernel_rfl) (N := 11) (by kernel_rfl) (by kernel_rfl) (by kernel_rfl) (fun _ _ _ h => h) (Or.inl ⟨by rfl, ?_⟩) hHeld ?_
    rotate_left 1
    · intro w hSw
      go_simp
      try with_reducible rfl
    show anyK _ _ _ _ _ _ _ _ (Act.put _ (some 59) _) _
    simp only [Act.put, List.setIfInBounds_toArray, List.set_cons_zero, List.set_cons_succ]
    clear hHeld
    have Es := ext_al wr.drew (.cells #[.slice ao n cp, .slice bo m cq] 22)
    have hx5 := hd0.trans Es
    refine anyK_one (i := 5) (by kernel_rfl) rfl (fun Kk hKk => ?_)
    go_wp2_with fail
    refine hKk.out _ _ (fun _ => ⟨⟨cell_ext l0 hx5, cell_ext l1 hx5, cell_ext l2 hx5⟩, cell_ext j2 hx5⟩) ?_
    clear hKk Kk
    simp only [List.setIfInBounds_toArray, List.set_cons_zero, List.set_cons_succ]
    have t0 : (wr.drew.alloc (.cells #[.slice ao n cp, .slice bo m cq] 22)).cell? ⟨wr.drew.heap.size, 0, none⟩ = some (.slice ao n cp) := by rw [cell_of_row _ _ 0 _ _ (0, 0) (heap_alloc_new wr.drew _)]; rfl
    have t1 : (wr.drew.alloc (.cells #[.slice ao n cp, .slice bo m cq] 22)).cell? ⟨wr.drew.heap.size, 1, none⟩ = some (.slice bo m cq) := by rw [cell_of_row _ _ 1 _ _ (0, 0) (heap_alloc_new wr.drew _)]; rfl
    have HCc := Lib.hid (concat_any wr.drew.heap.size ao n cp bo m cq opsA opsB _ (HopA1.out.ext hx5) (HopB1.out.ext hx5) Hna.out Hnb.out hn4 hm4 t0 t1)
    refine anyK_one (i := 6) (by kernel_rfl) rfl (fun Kk hKk => ?_)
    go_simp
    (go_at_call 40; refine HCc.out.mono ?_; rintro e w6 ⟨v6, rfl, hL6, hx6⟩)
    have he6 := hx5.trans hx6
    obtain ⟨a6, c6, ev6, hc61, hc62, hat6⟩ := hL6.at hx6
    have hl6 : (opsA ++ opsB).length = n + m := by rw [List.length_append, HlA.out, HlB.out]
    rw [hl6] at ev6 hc61 hat6
    subst ev6
    go_wp2_with fail
    refine hKk.out _ _ (fun _ => ⟨⟨cell_ext l0 he6, cell_ext l1 he6, cell_ext l2 he6⟩, cell_ext j2 he6⟩) ?_
    clear hKk Kk
    simp only [List.setIfInBounds_toArray, List.set_cons_zero, List.set_cons_succ]
    have HWi := Lib.hid (with_N qa ba ao n cp a6 (n + m) c6 (opsA ++ opsB) w6 hat6 (by omega) (fun g hg => by
      rcases List.mem_append.1 hg with h | h
      · exact HfA.out g h
      · exact HfB.out g h))
    obtain ⟨nm, hnm⟩ : ∃ y, n + m = y := ⟨_, rfl⟩
    have Hnm := Lib.hid hnm
    rw [hnm] at HWi ⊢
    refine anyK_one (i := 7) (by kernel_rfl) rfl (fun Kk hKk => ?_)
    go_simp
    (go_at_call 24; refine HWi.out.mono ?_; rintro e w7 ⟨⟨a7, c7, rfl, hO7⟩, hx7⟩)
    have he7 := he6.trans hx7
    go_wp2_with fail
    refine hKk.out _ _ (fun _ => ⟨⟨cell_ext l0 he7, cell_ext l1 he7, cell_ext l2 he7⟩, cell_ext j2 he7⟩) ?_
    clear hKk Kk
    simp only [List.setIfInBounds_toArray, List.set_cons_zero, List.set_cons_succ]
    have bR7 := HbR.out.ext he7; have bF7 := HbF.out.ext he7
    have r0 := bR7.x0; have r1 := bR7.x1; have r2 := bR7.x2; have g0 := bR7.f 0; have g1 := bR7.f 1; have g2 := bR7.f 2
    refine anyK_one (i := 9) (by kernel_rfl) rfl (fun Kk hKk => ?_)
    refine stepK_storeC rfl rfl _ _ rfl (H + 2) qa ba a7 nm c7 _ _ _ rfl rfl r0 r1 r2 g0 g1 g2 ?_
    have hP1 : Only (H + 2) w7 (((w7.setCell ⟨H + 2, 0, none⟩ (.int .i64 qa)).setCell ⟨H + 2, 1, none⟩ (.int .i64 ba)).setCell ⟨H + 2, 2, none⟩ (.slice a7 nm c7)) := (((Only.refl _ _).setCell _ _).setCell _ _).setCell _ _
    have bA8 := (HA1.out.ext he7).kept hP1 (by omega); have bB8 := (HB1.out.ext he7).kept hP1 (by omega)
    refine hKk.out _ _ (fun _ => ⟨⟨bA8.x0, bA8.x1, bA8.x2⟩, bB8.x2⟩) ?_
    clear hKk Kk bA8 bB8
    simp only [List.setIfInBounds_toArray, List.set_cons_zero, List.set_cons_succ]
    have bF8 := bF7.kept hP1 (by omega)
    have f0 := bF8.x0; have f1 := bF8.x1; have k0 := bF8.f 0; have k1 := bF8.f 1
    refine anyK_one (i := 10) (by kernel_rfl) rfl (fun Kk hKk => ?_)
    refine stepK_storeF rfl rfl _ _ rfl (H + 3) 0 0 _ _ rfl rfl f0 f1 k0 k1 ?_
    refine hKk.out _ _ (fun h => Bool.noConfusion (show true = false from h)) ?_
    clear hKk Kk
    simp only [List.setIfInBounds_toArray, List.set_cons_zero, List.set_cons_succ]
    refine anyK_done (by kernel_rfl) ?_ _
    have zC := putCF_C bR7 (show H + 2 ≠ H + 3 by omega) qa ba a7 nm c7 0 0
    have zF := putCF_F bF7 (show H + 2 ≠ H + 3 by omega) qa ba a7 nm c7 0 0
    have zO := (putCF_opsN hO7 bR7 bF7 (show H + 2 ≠ H + 3 by omega) qa ba a7 nm c7 0 0).down (show w.heap.size ≤ w6.heap.size + 3 by have h1 := he6.size; have h2 := HsX.out; omega)
    have zE : Ext w (putCF w7 (H + 2) (H + 3) qa ba a7 nm c7 0 0) := putCF_ext (HbE.out.trans he7) (show w.heap.size ≤ H + 2 by omega) (show w.heap.size ≤ H + 3 by omega) _ _ _ _ _ _ _
    obtain ⟨Wz, hWz⟩ : ∃ Wz, putCF w7 (H + 2) (H + 3) qa ba a7 nm c7 0 0 = Wz := ⟨_, rfl⟩
    rw [hWz] at zC zF zO zE
    unfold putCF at hWz
    rw [hWz]
    have HzE := Lib.hid zE; have HzO := Lib.hid zO
    have v0 := zC.x0; have v1 := zC.x1; have v2 := zC.x2; have v3 := zF.x0; have v4 := zF.x1
    clear zC zF zO zE hWz hO7 hx7 he7 hx6 he6 hx5 Es hd0 bR7 bF7 bF8 hP1 hat6 r0 r1 r2 g0 g1 g2 f0 f1 k0 k1 t0 t1 hL6 hc61 hc62 l0 l1 l2 j0 j1 j2 hl6 hnm
    go_wp2_with fail
    exact bodyPost_ret (v := .tuple #[.agg #[.int .i64 qa, .int .i64 ba, .slice a7 nm c7], .agg #[.int .i64 0, .int .i64 0]]) (by simp [results, Tryd.results19, go_sem, v0, v1, v2, v3, v4]) rfl ⟨Or.inr ⟨HTz.out, a7, c7, by rw [Hnm.out], by rw [Hnm.out]; exact HzO.out⟩, HzE.out⟩

end Go.Proofs.YtapolidgocfbjaaDoor
namespace Go.Proofs.YtapolidgocfbjaaDoor
open Go.RowKit

set_option maxHeartbeats 8000000 in
set_option maxRecDepth 100000 in
theorem Power_N (c : Gci) (ao : Option Addr) (n cp : Nat) (x : Int) (w : World) (h : OpsAt w ao n c.ops) (hn : n ≤ cp) (hcp : cp ≤ 9223372036854775807) (hS : Shp w) (hp : (pur c).1 = 0) (hx0 : -9223372036854775808 ≤ x) (hx1 : x ≤ 9223372036854775807) :
    Calls Tryd.prog 17 #[.agg #[.int .i64 c.qubits, .int .i64 c.bits, .slice ao n cp], .int .i64 x] w fun e w' =>
      ((0 < n ∧ 4096 / n < x.natAbs ∧ e = .returned (.tuple #[.agg #[.int .i64 0, .int .i64 0, .slice none 0 0], .agg #[.int .i64 2, .int .i64 0]])) ∨
       ((n = 0 ∨ x.natAbs ≤ 4096 / n) ∧ ∃ (a' : Option Addr) (m c' : Nat), m = (repO x.natAbs (onceO x c.ops)).length ∧ e = .returned (.tuple #[.agg #[.int .i64 c.qubits, .int .i64 c.bits, .slice a' m c'], .agg #[.int .i64 0, .int .i64 0]]) ∧ OpsN w' (w.heap.size + 3) (.slice a' m c') (repO x.natAbs (onceO x c.ops)))) ∧ Ext w w' := by
  obtain ⟨hck, hpz⟩ := pur_zero hp
  obtain ⟨hz, hq1, hq2, hb1, hb2, hl4, hop⟩ := chk_zero hck
  have hfit : ∀ g ∈ onceO x c.ops, g.ctl.length ≤ 1000 ∧ g.cnd.length ≤ 1000 := fun g hg => by
    have key : ∀ g ∈ c.ops, g.ctl.length ≤ 1000 ∧ g.cnd.length ≤ 1000 := fun g hg => by
      have f := prFit_of_code hq2 hb1 hb2 (hop g hg)
      exact ⟨Nat.le_trans f.few (by decide), Nat.le_trans f.cfew (by decide)⟩
    unfold onceO at hg
    split at hg
    · unfold invO at hg
      obtain ⟨g', hg', rfl⟩ := List.mem_map.1 hg
      exact key g' (List.mem_reverse.1 hg')
    · exact key g hg
  have hl : c.ops.length = n := h.1
  rw [hl] at hl4
  have HInv := Lib.hid (fun wx (hx : Ext w wx) => Inverse_yes c ao n cp wx (h.ext hx) hn hcp (hS.ext hx) hp)
  obtain ⟨qb, bi, ops⟩ := c
  simp only at hfit hl h HInv ⊢
  obtain ⟨os1, hos⟩ : ∃ y, onceO x ops = y := ⟨_, rfl⟩
  have Hosl := Lib.hid (show os1.length = n by rw [← hos, onceO_len]; exact hl)
  have HosN := Lib.hid (show x < 0 → invO ops = os1 from fun hx => by rw [← hos, onceO, if_pos hx])
  have HosP := Lib.hid (show ¬ x < 0 → ops = os1 from fun hx => by rw [← hos, onceO, if_neg hx])
  rw [hos] at hfit ⊢
  obtain ⟨tm, htm⟩ : ∃ y, x.natAbs = y := ⟨_, rfl⟩
  have htb : tm ≤ 9223372036854775808 := by rw [← htm]; omega
  rw [htm]
  obtain ⟨H, hH⟩ : ∃ H, w.heap.size = H := ⟨_, rfl⟩
  obtain ⟨A1, hA1⟩ : ∃ A1, w.alloc (.cells #[.int .i64 qb, .int .i64 bi, .slice ao n cp] 24) = A1 := ⟨_, rfl⟩
  obtain ⟨A2, hA2⟩ : ∃ A2, A1.alloc (.cells #[.int .i64 0, .int .i64 0, .slice none 0 0] 24) = A2 := ⟨_, rfl⟩
  obtain ⟨A3, hA3⟩ : ∃ A3, A2.alloc (.cells #[.int .i64 0, .int .i64 0] 28) = A3 := ⟨_, rfl⟩
  have s1 : A1.heap.size = H + 1 := by rw [← hA1, ← hH]; simp
  have s2 : A2.heap.size = H + 2 := by rw [← hA2]; simp; omega
  have s3 : A3.heap.size = H + 3 := by rw [← hA3]; simp; omega
  have x1 : Ext w A1 := by rw [← hA1]; exact ext_al _ _
  have x2 : Ext A1 A2 := by rw [← hA2]; exact ext_al _ _
  have x3 : Ext A2 A3 := by rw [← hA3]; exact ext_al _ _
  have bC : CiB A3 H qb bi ao n cp := by
    have : CiB A1 H qb bi ao n cp := by rw [← hA1, ← hH]; exact ⟨heap_alloc_new w _⟩
    exact (this.ext x2).ext x3
  have bR : CiB A3 (H + 1) 0 0 none 0 0 := by
    have : CiB A2 (H + 1) 0 0 none 0 0 := by rw [← hA2, ← s1]; exact ⟨heap_alloc_new A1 _⟩
    exact this.ext x3
  have bF : FtB A3 (H + 2) 0 0 := by rw [← hA3, ← s2]; exact ⟨heap_alloc_new A2 _⟩
  have E0 : Ext w A3 := (x1.trans x2).trans x3
  have hA : ((w.alloc (.cells #[.int .i64 qb, .int .i64 bi, .slice ao n cp] 24)).alloc (.cells #[.int .i64 0, .int .i64 0, .slice none 0 0] 24)).alloc (.cells #[.int .i64 0, .int .i64 0] 28) = A3 := by rw [hA1, hA2, hA3]
  have HK := Lib.hid (Pure_any ⟨qb, bi, ops⟩ ao n cp A3 (h.ext E0) hn hcp (hS.ext E0))
  rw [hpz] at HK
  simp only at HK
  have m0 := bC.x0; have m1 := bC.x1; have m2 := bC.x2
  rw [← hA] at m0 m1 m2
  have HA := Lib.hid hA; have HE0 := Lib.hid E0; have HC := Lib.hid bC; have HR := Lib.hid bR; have HFt := Lib.hid bF
  have Hops := Lib.hid h; have Hfit := Lib.hid hfit; have Hs3 := Lib.hid s3; have HhH := Lib.hid hH; have Htm := Lib.hid htm
  clear h hS hpz E0 bC bR bF x1 x2 x3 s1 s2 s3 hA1 hA2 hA3 hA hfit hl hck hz hq1 hq2 hb1 hb2 hop hp hos htm
  go_enter Tryd.func17, Tryd.ntmps17
  go_wp2_with fail
  rw [HA.out]
  refine HK.out.mono ?_
  rintro e w1 ⟨rfl, hx1'⟩
  have Ef := ext_al w1 (.cells #[.int .i64 0, .int .i64 0] 28)
  have bf1 : FtB (w1.alloc (.cells #[.int .i64 0, .int .i64 0] 28)) w1.heap.size 0 0 := ⟨heap_alloc_new w1 _⟩
  have q0 := bf1.x0; have q1 := bf1.x1
  have hX := hx1'.trans Ef
  have bC1 := HC.out.ext hX
  have y0 := bC1.x0; have y1 := bC1.x1; have y2 := bC1.x2
  have HC1 := Lib.hid bC1; have HR1 := Lib.hid (HR.out.ext hX); have HF1 := Lib.hid (HFt.out.ext hX); have HE1 := Lib.hid (HE0.out.trans hX)
  clear hx1' Ef bf1 hX bC1 HK HC HR HFt HE0 m0 m1 m2
  have EO := ext_al (w1.alloc (.cells #[.int .i64 0, .int .i64 0] 28)) (.cells #[.int .i64 qb, .int .i64 bi, .slice ao n cp] 24)
  have hszA : (w1.alloc (.cells #[.int .i64 0, .int .i64 0] 28)).heap.size = w1.heap.size + 1 := by simp
  have bOc : CiB ((w1.alloc (.cells #[.int .i64 0, .int .i64 0] 28)).alloc (.cells #[.int .i64 qb, .int .i64 bi, .slice ao n cp] 24)) (w1.heap.size + 1) qb bi ao n cp := by rw [← hszA]; exact ⟨heap_alloc_new _ _⟩
  have HbOc := Lib.hid bOc; have HC2 := Lib.hid (HC1.out.ext EO); have HR2 := Lib.hid (HR1.out.ext EO); have HF2 := Lib.hid (HF1.out.ext EO); have HE2 := Lib.hid (HE1.out.trans EO)
  have hlo : H + 3 ≤ w1.heap.size + 1 := by have h1 := HF1.out.lt; rw [hszA] at h1; omega
  clear EO hszA bOc HC1 HR1 HF1 HE1
  obtain ⟨ux, hux⟩ : ∃ y, IntKind.u64.wrap x = y := ⟨_, rfl⟩
  have Hux := Lib.hid hux
  go_upto_if 22 with fail
  generalize (w1.alloc (.cells #[.int .i64 0, .int .i64 0] 28)).alloc (.cells #[.int .i64 qb, .int .i64 bi, .slice ao n cp] 24) = W2 at *
  obtain ⟨Oc, hOc⟩ : ∃ y, w1.heap.size + 1 = y := ⟨_, rfl⟩
  rw [hOc] at HbOc hlo ⊢
  clear hOc
  clear q0 q1 y0 y1 y2
  go_cut [8] from 22 to 29 (fun s8 wx => s8 = .int .u64 (tm : Int) ∧ ∃ (aO : Option Addr) (cO : Nat), CiB wx Oc qb bi aO n cO ∧ OpsAt wx aO n os1 ∧ n ≤ cO ∧ cO ≤ 9223372036854775807 ∧ CiB wx H qb bi ao n cp ∧ CiB wx (H + 1) 0 0 none 0 0 ∧ FtB wx (H + 2) 0 0 ∧ Ext w wx ∧ Oc < wx.heap.size)
  case first =>
    by_cases hx : x < 0
    · have hd : decide (x < 0) = true := dt hx
      have y0 := HC2.out.x0; have y1 := HC2.out.x1; have y2 := HC2.out.x2
      have hng : IntKind.u64.wrap (-ux) = (tm : Int) := by
        have h1 := Hux.out
        have h2 := Htm.out
        rw [← h1]
        simp [IntKind.wrap, IntKind.bits, IntKind.signed]
        omega
      have HoE := Lib.hid (HosN.out hx)
      go_wp2_with fail
      refine (HInv.out W2 HE2.out).mono ?_
      rintro e w3 ⟨⟨aO, cO, rfl, hc1, hc2, hO⟩, hx3⟩
      obtain ⟨a9, c9, ev9, _, _, hat⟩ := hO.at
      injection ev9 with ea en ec
      subst ea; subst ec
      have hOb := HbOc.out.ext hx3
      have z0 := hOb.x0; have z1 := hOb.x1; have z2 := hOb.x2; have g0 := hOb.f 0; have g1 := hOb.f 1; have g2 := hOb.f 2
      have hO3 : Only Oc w3 (((w3.setCell ⟨Oc, 0, none⟩ (.int .i64 qb)).setCell ⟨Oc, 1, none⟩ (.int .i64 bi)).setCell ⟨Oc, 2, none⟩ (.slice aO n cO)) := (((Only.refl _ _).setCell _ _).setCell _ _).setCell _ _
      have hoF := hO.only hOb.row (by decide) hO3 (by simp) (by have := HbOc.out.lt; omega)
      obtain ⟨a8, c8, ev8, _, _, hat8⟩ := hoF.at
      injection ev8 with ea8 en8 ec8
      subst ea8; subst ec8
      rw [← en8, HoE.out] at hat8
      have HbZ := Lib.hid (((hOb.set0 qb).set1 bi).set2 aO n cO); have Hat := Lib.hid hat8
      have HCz := Lib.hid (show CiB (((w3.setCell ⟨Oc, 0, none⟩ (.int .i64 qb)).setCell ⟨Oc, 1, none⟩ (.int .i64 bi)).setCell ⟨Oc, 2, none⟩ (.slice aO n cO)) H qb bi ao n cp from ⟨(hO3.block _ (by omega)).trans (HC2.out.ext hx3).row⟩)
      have HRz := Lib.hid (show CiB (((w3.setCell ⟨Oc, 0, none⟩ (.int .i64 qb)).setCell ⟨Oc, 1, none⟩ (.int .i64 bi)).setCell ⟨Oc, 2, none⟩ (.slice aO n cO)) (H + 1) 0 0 none 0 0 from ⟨(hO3.block _ (by omega)).trans (HR2.out.ext hx3).row⟩)
      have HFz := Lib.hid (show FtB (((w3.setCell ⟨Oc, 0, none⟩ (.int .i64 qb)).setCell ⟨Oc, 1, none⟩ (.int .i64 bi)).setCell ⟨Oc, 2, none⟩ (.slice aO n cO)) (H + 2) 0 0 from ⟨(hO3.block _ (by omega)).trans (HF2.out.ext hx3).row⟩)
      have HEz := Lib.hid (cput (o := 2) (cput (o := 1) (cput (o := 0) (HE2.out.trans hx3) (show w.heap.size ≤ Oc by omega) (.int .i64 qb)) (show w.heap.size ≤ Oc by omega) (.int .i64 bi)) (show w.heap.size ≤ Oc by omega) (.slice aO n cO))
      have Hc1 := Lib.hid hc1; have Hc2 := Lib.hid hc2
      clear hx3 hO hat hOb hO3 hoF hat8 hc1 hc2 y0 y1 y2 en en8
      go_wp2_with fail
      go_meet
      exact ⟨rfl, aO, cO, HbZ.out, Hat.out, Hc1.out, by have := Hc2.out; unfold maxLen at this; omega, HCz.out, HRz.out, HFz.out, HEz.out, HbZ.out.lt⟩
    · have hd : decide (x < 0) = false := df hx
      have hut : ux = (tm : Int) := by
        have h1 := Hux.out
        have h2 := Htm.out
        rw [← h1]
        simp [IntKind.wrap, IntKind.bits, IntKind.signed]
        omega
      have Hut := Lib.hid hut
      have HoE := Lib.hid (HosP.out (by omega))
      clear hut
      go_wp2_with fail
      go_meet
      exact ⟨congrArg (fun y => Value.int .u64 y) Hut.out, ao, cp, HbOc.out, by rw [← HoE.out]; exact Hops.out.ext HE2.out, hn, hcp, HC2.out, HR2.out, HF2.out, HE2.out, HbOc.out.lt⟩
  case rest =>
  obtain ⟨rfl, aO, cO, hbO, hat, hcO1, hcO2, hC, hR, hF, hE, hOl⟩ := hcut
  clear HbOc HC2 HR2 HF2 HE2 HInv HosN HosP hux Hops
  generalize wc = V at *
  have y2 := hC.x2
  have wn : IntKind.u64.wrap (n : Int) = (n : Int) := by simp [IntKind.wrap, IntKind.bits, IntKind.signed]; omega
  have HbO := Lib.hid hbO; have Hat := Lib.hid hat; have HC := Lib.hid hC; have HR := Lib.hid hR; have HF := Lib.hid hF; have HE := Lib.hid hE
  clear hbO hat hC hR hF hE
  by_cases hbig : 0 < n ∧ 4096 / n < tm
  · obtain ⟨d, hd⟩ : ∃ y, 4096 / n = y := ⟨_, rfl⟩
    have hd4 : d ≤ 4096 := by rw [← hd]; exact Nat.div_le_self _ _
    have p0 : (0 : Int) < (n : Int) := by omega
    have p0' : decide ((0 : Int) < (n : Int)) = true := dt p0
    have hq : (4096 : Int).tdiv (n : Int) = (d : Int) := by rw [← hd]; exact Int.ofNat_tdiv 4096 n
    have nz : ¬ (n : Int) = 0 := by omega
    have wd : IntKind.u64.wrap (d : Int) = (d : Int) := by simp [IntKind.wrap, IntKind.bits, IntKind.signed]; omega
    have hgt : (d : Int) < (tm : Int) := by have := hbig.2; omega
    have hgt' : decide ((d : Int) < (tm : Int)) = true := dt hgt
    have r0 := HR.out.x0; have r1 := HR.out.x1; have r2 := HR.out.x2; have g0 := HR.out.f 0; have g1 := HR.out.f 1; have g2 := HR.out.f 2
    have f0 := HF.out.x0; have f1 := HF.out.x1; have k0 := HF.out.f 0; have k1 := HF.out.f 1
    have zC := putCF_C HR.out (show H + 1 ≠ H + 2 by omega) 0 0 none 0 0 2 0
    have zF := putCF_F HF.out (show H + 1 ≠ H + 2 by omega) 0 0 none 0 0 2 0
    have HzE := Lib.hid (putCF_ext HE.out (show w.heap.size ≤ H + 1 by omega) (show w.heap.size ≤ H + 2 by omega) 0 0 none 0 0 2 0 : Ext w (putCF V (H + 1) (H + 2) 0 0 none 0 0 2 0))
    obtain ⟨Wz, hWz⟩ : ∃ Wz, putCF V (H + 1) (H + 2) 0 0 none 0 0 2 0 = Wz := ⟨_, rfl⟩
    rw [hWz] at zC zF HzE
    unfold putCF at hWz
    have HWz := Lib.hid hWz; have Hbig := Lib.hid hbig
    have v0 := zC.x0; have v1 := zC.x1; have v2 := zC.x2; have v3 := zF.x0; have v4 := zF.x1
    clear zC zF hWz hbig hd hd4
    go_wp2_with fail
    rw [HWz.out]
    exact bodyPost_ret (v := .tuple #[.agg #[.int .i64 0, .int .i64 0, .slice none 0 0], .agg #[.int .i64 2, .int .i64 0]]) (by simp [results, Tryd.results17, go_sem, v0, v1, v2, v3, v4]) rfl ⟨Or.inl ⟨Hbig.out.1, Hbig.out.2, rfl⟩, HzE.out⟩
  · have hsm : n = 0 ∨ tm ≤ 4096 / n := by
      by_cases h0 : n = 0
      · exact Or.inl h0
      · exact Or.inr (Nat.le_of_not_lt fun hh => hbig ⟨by omega, hh⟩)
    obtain ⟨nt, hnt⟩ : ∃ y, n * tm = y := ⟨_, rfl⟩
    have hnt4 : nt ≤ 4096 := by
      rw [← hnt]
      rcases hsm with h0 | h0
      · rw [h0, Nat.zero_mul]; omega
      · exact Nat.le_trans (Nat.mul_le_mul_left n h0) (Nat.mul_div_le 4096 n)
    have Hsm := Lib.hid hsm; have Hnt := Lib.hid hnt
    have wm : IntKind.u64.wrap ((n : Int) * (tm : Int)) = (nt : Int) := by
      have : (n : Int) * (tm : Int) = (nt : Int) := by rw [← hnt]; simp
      rw [this]
      simp [IntKind.wrap, IntKind.bits, IntKind.signed]; omega
    clear hsm hbig hnt
    go_upto_region 9 with fail
    go_cut [41] from 34 to 41 (fun s41 wx => s41 = .bool false ∧ wx = V)
    case first =>
      by_cases h0 : n = 0
      · have p0' : decide ((0 : Int) < (n : Int)) = false := df (by omega)
        have p1 : ¬ (0 : Int) < (n : Int) := by omega
        clear h0
        go_wp2_with fail
        go_meet
        exact ⟨rfl, rfl⟩
      · obtain ⟨d, hd⟩ : ∃ y, 4096 / n = y := ⟨_, rfl⟩
        have hd4 : d ≤ 4096 := by rw [← hd]; exact Nat.div_le_self _ _
        have p0 : (0 : Int) < (n : Int) := by omega
        have p0' : decide ((0 : Int) < (n : Int)) = true := dt p0
        have hq : (4096 : Int).tdiv (n : Int) = (d : Int) := by rw [← hd]; exact Int.ofNat_tdiv 4096 n
        have nz : ¬ (n : Int) = 0 := by omega
        have wd : IntKind.u64.wrap (d : Int) = (d : Int) := by simp [IntKind.wrap, IntKind.bits, IntKind.signed]; omega
        have hgt : ¬ (d : Int) < (tm : Int) := by have := Hsm.out; omega
        have hgt' : decide ((d : Int) < (tm : Int)) = false := df hgt
        clear hd hd4 h0
        go_wp2_with fail
        go_meet
        exact ⟨rfl, rfl⟩
    case rest =>
    obtain ⟨rfl, rfl⟩ := hcut
    have HVs := Lib.hid (Nat.le_refl wc.heap.size)
    obtain ⟨j0, hji, hjz0, hjz1, hjz2⟩ := info_parts op_info
    have HV := Lib.hid (Eq.refl wc)
    go_wp2_with fail
    go_loopg [10] tm (fun kk s10 wx => ∃ k : Nat, k ≤ tm ∧ tm - k = kk ∧ OpsL wc wx wc.heap.size s10 (repO k os1) ∧ Ext wc wx)
    case atStart => exact ⟨0, Nat.zero_le _, rfl, OpsL.nil _ _ _, Ext.refl _⟩
    case round =>
      obtain ⟨k, hkt, hkk, hO, hX⟩ := hrel
      obtain ⟨av, cv, evv, hcv1, hcv2, hatv⟩ := hO.at hX
      have hlk : (repO k os1).length = k * n := by rw [repO_len, Hosl.out]
      obtain ⟨kn, hkn⟩ : ∃ y, k * n = y := ⟨_, rfl⟩
      rw [hlk, hkn] at evv hcv1 hatv
      subst evv
      have hknb : kn ≤ nt := by rw [← hkn, ← Hnt.out, Nat.mul_comm k n]; exact Nat.mul_le_mul_left n hkt
      have wk : IntKind.u64.wrap (kn : Int) = (kn : Int) := by simp [IntKind.wrap, IntKind.bits, IntKind.signed]; omega
      by_cases hlt : kn < nt
      · have q1 : (kn : Int) < (nt : Int) := by omega
        have q1' : decide ((kn : Int) < (nt : Int)) = true := dt q1
        have hn0 : 0 < n := by
          rcases Nat.eq_zero_or_pos n with h0 | h0
          · rw [h0, Nat.mul_zero] at hkn; rw [← Hnt.out, h0, Nat.zero_mul] at hlt; omega
          · exact h0
        have hkl : k < tm := by
          rcases Nat.lt_or_ge k tm with h0 | h0
          · exact h0
          · have := Nat.mul_le_mul_left n h0
            rw [Hnt.out, Nat.mul_comm n k, hkn] at this; omega
        have hkn1 : kn + n ≤ nt := by
          have := Nat.mul_le_mul_left n hkl
          rw [Hnt.out, Nat.mul_succ, Nat.mul_comm n k, hkn] at this; omega
        have yb := (HbO.out.ext hX).x2
        obtain ⟨ob, oo, eoo⟩ := (Hat.out).some_of hn0
        subst eoo
        obtain ⟨ys, hyl, hyc, hyo, hyr⟩ := opsAt_cells Hat.out
        obtain ⟨xs, hown, hxr⟩ := hO
        rw [hlk, hkn] at hown
        have Hyc := Lib.hid (fun j u (hu : ys[j]? = some u) => (hX.cell (p := (⟨ob, oo, none⟩ : Addr).add j) (by
          have h1 := World.block_lt_of_cell? _ _ (hyc j u hu)
          exact h1)).trans (hyc j u hu))
        have Hown := Lib.hid hown; have Hxr := Lib.hid hxr; have Hyr := Lib.hid hyr; have Hyo := Lib.hid hyo; have Hyl := Lib.hid hyl; have HX := Lib.hid hX
        have Hkn := Lib.hid hkn; have Hlk := Lib.hid hlk; have Hkl := Lib.hid hkl
        clear hown hxr hyr hyo hyc hatv hX hlk hkn hlt
        go_wp2_with (at_builtin; refine wpList_append_own_at _ rfl _ _ 22 rfl wc.heap.size 43 j0 (.agg #[.int .i64 0, .int .i64 0, .slice none 0 0, .int .i64 0, .int .i64 0, .slice none 0 0]) 6 80 Tryd.underlying22 hji hjz0 hjz1 hjz2 rfl (by decide) _ kn xs rfl Hown.out ⟨ob, oo, none⟩ n cO ys rfl Hyl.out Hyc.out Hyo.out (by unfold maxLen; omega) (by omega) HX.out.size ?_; intro v' w7 hown' hgrow' _ _)
        have HO7 := Lib.hid (show OpsL wc w7 wc.heap.size v' (repO (k + 1) os1) by
          rw [repO_succ]
          refine OpsL.app (by rw [Hlk.out, Hkn.out]; exact Hown.out.1) (by rw [Hlk.out, Hkn.out, Hosl.out]; exact hown') Hxr.out Hyr.out)
        have HX7 := Lib.hid (grown_ext HX.out hgrow' (fun q hq => (own_lt Hown.out q hq).1))
        go_roundg (tm - (k + 1))
        case measure => have := Hkl.out; omega
        case rel => exact ⟨k + 1, Hkl.out, rfl, HO7.out, HX7.out⟩
      · have q1 : ¬ (kn : Int) < (nt : Int) := by omega
        have q1' : decide ((kn : Int) < (nt : Int)) = false := df q1
        have heq : repO k os1 = repO tm os1 := by
          rcases Nat.eq_zero_or_pos n with h0 | h0
          · have : os1 = [] := List.length_eq_zero_iff.1 (by rw [Hosl.out]; exact h0)
            rw [this]
            simp [repO]
          · have h1 : n * k = n * tm := by rw [Hnt.out, Nat.mul_comm n k, hkn]; omega
            rw [Nat.eq_of_mul_eq_mul_left h0 h1]
        have hC := HC.out.ext hX
        have y0 := hC.x0; have y1 := hC.x1; have y2 := hC.x2
        have hlk2 : (repO tm os1).length = kn := by rw [← heq, hlk, hkn]
        rw [heq] at hatv
        have Hatv := Lib.hid hatv; have Hlk2 := Lib.hid hlk2
        have HRx := Lib.hid (HR.out.ext hX); have HFx := Lib.hid (HF.out.ext hX); have HEx := Lib.hid (HE.out.trans hX)
        have Hbs := Lib.hid (show H + 3 ≤ wr.heap.size by have h1 := HF.out.lt; have h2 := hX.size; omega)
        clear hatv hlk2 hX hC heq hlk hkn hlt hO hcv1 hcv2 hkt hkk
        go_wp2_with fail
        refine (with_N qb bi ao n cp av kn cv (repO tm os1) wr Hatv.out (by omega) (fun g hg => Hfit.out g (repO_mem hg))).mono ?_
        rintro e w5 ⟨⟨a5, c5, rfl, hO5⟩, hx5⟩
        have bR5 := HRx.out.ext hx5; have bF5 := HFx.out.ext hx5
        have r0 := bR5.x0; have r1 := bR5.x1; have r2 := bR5.x2; have g0 := bR5.f 0; have g1 := bR5.f 1; have g2 := bR5.f 2
        have f0 := bF5.x0; have f1 := bF5.x1; have k0 := bF5.f 0; have k1 := bF5.f 1
        have zC := putCF_C bR5 (show H + 1 ≠ H + 2 by omega) qb bi a5 kn c5 0 0
        have zF := putCF_F bF5 (show H + 1 ≠ H + 2 by omega) qb bi a5 kn c5 0 0
        have zO := putCF_opsN hO5 bR5 bF5 (show H + 1 ≠ H + 2 by omega) qb bi a5 kn c5 0 0
        have zE : Ext w (putCF w5 (H + 1) (H + 2) qb bi a5 kn c5 0 0) := putCF_ext (HEx.out.trans hx5) (show w.heap.size ≤ H + 1 by omega) (show w.heap.size ≤ H + 2 by omega) _ _ _ _ _ _ _
        obtain ⟨Wz, hWz⟩ : ∃ Wz, putCF w5 (H + 1) (H + 2) qb bi a5 kn c5 0 0 = Wz := ⟨_, rfl⟩
        rw [hWz] at zC zF zO zE
        unfold putCF at hWz
        have HWz := Lib.hid hWz; have HzE := Lib.hid zE; have HzO := Lib.hid (zO.down (show H + 3 ≤ wr.heap.size + 3 by have := Hbs.out; omega))
        have v0 := zC.x0; have v1 := zC.x1; have v2 := zC.x2; have v3 := zF.x0; have v4 := zF.x1
        clear zC zF zO zE hWz bR5 bF5 hO5 hx5
        go_wp2_with fail
        rw [HWz.out]
        exact bodyPost_ret (v := .tuple #[.agg #[.int .i64 qb, .int .i64 bi, .slice a5 kn c5], .agg #[.int .i64 0, .int .i64 0]]) (by simp [results, Tryd.results17, go_sem, v0, v1, v2, v3, v4]) rfl ⟨Or.inr ⟨Hsm.out, a5, kn, c5, Hlk2.out.symm, rfl, by rw [HhH.out]; exact HzO.out⟩, HzE.out⟩

end Go.Proofs.YtapolidgocfbjaaDoor
namespace Go.Proofs.YtapolidgocfbjaaDoor
open Go.RowKit

/-- A circuit and a fault are answered, the circuit in memory that is not older than w. -/
def Ans (w w' : World) (e : Ending) (r : (Int × Int) × Gci) : Prop :=
  ∃ (a : Option Addr) (m c : Nat), e = .returned (.tuple #[.agg #[.int .i64 r.2.qubits, .int .i64 r.2.bits, .slice a m c], .agg #[.int .i64 r.1.1, .int .i64 r.1.2]]) ∧ OpsN w' w.heap.size (.slice a m c) r.2.ops
/-- No circuit. -/
def noC : Gci := ⟨0, 0, []⟩
theorem Ans.none {w w' : World} {e : Ending} {F : Int × Int} (h : e = .returned (.tuple #[.agg #[.int .i64 0, .int .i64 0, .slice none 0 0], .agg #[.int .i64 F.1, .int .i64 F.2]])) : Ans w w' e (F, noC) := ⟨.none, 0, 0, h, OpsN.nil _ _⟩

def powM (c : Gci) (x : Int) : (Int × Int) × Gci :=
  if (pur c).1 ≠ 0 then (pur c, noC) else if 0 < c.ops.length ∧ 4096 / c.ops.length < x.natAbs then ((2, 0), noC) else ((0, 0), ⟨c.qubits, c.bits, repO x.natAbs (onceO x c.ops)⟩)
def thnM (a b : Gci) : (Int × Int) × Gci := if (thnF a b).1 ≠ 0 then (thnF a b, noC) else ((0, 0), ⟨a.qubits, a.bits, a.ops ++ b.ops⟩)

section
variable (c : Gci) (ao : Option Addr) (n cp : Nat) (w : World) (h : OpsAt w ao n c.ops) (hn : n ≤ cp) (hcp : cp ≤ 9223372036854775807)
include h hn hcp
theorem Power_U (x : Int) (hS : Shp w) (hx0 : -9223372036854775808 ≤ x) (hx1 : x ≤ 9223372036854775807) : Calls Tryd.prog 17 #[.agg #[.int .i64 c.qubits, .int .i64 c.bits, .slice ao n cp], .int .i64 x] w fun e w' => Ans w w' e (powM c x) ∧ Ext w w' := by
  have hl := h.1
  unfold powM
  by_cases hp : (pur c).1 ≠ 0
  · rw [if_pos hp]
    exact (Power_no c ao n cp x w h hn hcp hS hp).mono fun e w' h => ⟨Ans.none h.1, h.2⟩
  · rw [if_neg hp, hl]
    refine (Power_N c ao n cp x w h hn hcp hS (by omega) hx0 hx1).mono ?_
    rintro e w' ⟨⟨h1, h2, rfl⟩ | ⟨h1, a', m, c', h2, rfl, hO⟩, hx⟩
    · rw [if_pos ⟨h1, h2⟩]
      exact ⟨Ans.none rfl, hx⟩
    · rw [if_neg (by rcases h1 with h1 | h1 <;> omega)]
      exact ⟨⟨a', m, c', rfl, hO.down (by omega)⟩, hx⟩
theorem RPower_U (x : Int) (hx0 : -9223372036854775808 ≤ x) (hx1 : x ≤ 9223372036854775807) : Calls Tryd.prog 18 #[.agg #[.int .i64 c.qubits, .int .i64 c.bits, .slice ao n cp], .int .i64 x] w fun e w' => Ans w w' e (powM c x) ∧ Ext w w' := by
  have hl := h.1
  unfold powM
  by_cases hp : (pur c).1 ≠ 0
  · rw [if_pos hp]
    exact (RPower_no c ao n cp x w h hn hcp hp).mono fun e w' h => ⟨Ans.none h.1, h.2⟩
  · rw [if_neg hp, hl]
    refine (RPower_yes c ao n cp x w h hn hcp (by omega) hx0 hx1).mono ?_
    rintro e w' ⟨⟨h1, h2, rfl⟩ | ⟨h1, a', m, c', h2, rfl, hO⟩, hx⟩
    · rw [if_pos ⟨h1, h2⟩]
      exact ⟨Ans.none rfl, hx⟩
    · rw [if_neg (by rcases h1 with h1 | h1 <;> omega)]
      exact ⟨⟨a', m, c', rfl, hO⟩, hx⟩
end
section
variable (a b : Gci) (ao : Option Addr) (n cp : Nat) (bo : Option Addr) (m cq : Nat) (w : World) (hA : OpsAt w ao n a.ops) (hB : OpsAt w bo m b.ops) (hn : n ≤ cp) (hcp : cp ≤ 9223372036854775807) (hm : m ≤ cq) (hcq : cq ≤ 9223372036854775807)
include hA hB hn hcp hm hcq
theorem Then_U (hna : ao = none → cp = 0) (hnb : bo = none → cq = 0) (hS : Shp w) : Calls Tryd.prog 19 #[.agg #[.int .i64 a.qubits, .int .i64 a.bits, .slice ao n cp], .agg #[.int .i64 b.qubits, .int .i64 b.bits, .slice bo m cq]] w fun e w' => Ans w w' e (thnM a b) ∧ Ext w w' := by
  unfold thnM
  refine (Then_any a b ao n cp bo m cq w hA hB hn hcp hm hcq hna hnb hS).mono ?_
  rintro e w' ⟨⟨h1, rfl⟩ | ⟨h1, a', c', rfl, hO⟩, hx⟩
  · rw [if_pos h1]
    exact ⟨Ans.none rfl, hx⟩
  · rw [if_neg (by omega)]
    exact ⟨⟨a', n + m, c', rfl, hO⟩, hx⟩
theorem RThen_U : Calls Tryd.prog 20 #[.agg #[.int .i64 a.qubits, .int .i64 a.bits, .slice ao n cp], .agg #[.int .i64 b.qubits, .int .i64 b.bits, .slice bo m cq]] w fun e w' => Ans w w' e (thnM a b) ∧ Ext w w' := by
  unfold thnM
  by_cases h1 : (thnF a b).1 ≠ 0
  · rw [if_pos h1]
    exact (RThen_no a b ao n cp bo m cq w hA hB hn hcp hm hcq h1).mono fun e w' h => ⟨Ans.none h.1, h.2⟩
  · rw [if_neg h1]
    refine (RThen_yes a b ao n cp bo m cq w hA hB hn hcp hm hcq (by omega)).mono ?_
    rintro e w' ⟨⟨a', c', rfl, hO⟩, hx⟩
    exact ⟨⟨a', n + m, c', rfl, hO⟩, hx⟩
end
/-- A row of the call's own that is nil has no room. -/
theorem OpsN.nil_cap {w : World} {base : Nat} {a : Option Addr} {n c : Nat} {ops : List Gop} (h : OpsN w base (.slice a n c) ops) : a = none → c = 0 := by
  intro e
  subst e
  obtain ⟨xs, hx⟩ := h
  rcases hx.own.2 with ⟨e, _⟩ | ⟨g, cap, cur, e, _⟩
  · injection e with _ _ e3
  · injection e with e1
    cases e1

end Go.Proofs.YtapolidgocfbjaaDoor
namespace Go.Proofs.YtapolidgocfbjaaDoor
open Go.RowKit

def smallC : Gci := ⟨2, 1, [⟨3, 0, [], 0, 0, []⟩, ⟨2, 0, [0], 1, 0, []⟩, ⟨5, 0, [], 1, 0, [-1]⟩]⟩
theorem smallC_chk : chk smallC = (0, 0) := by decide
theorem smallC_prn : prnV smallC = ⟨#[113, 117, 98, 105, 116, 115, 32, 50, 32, 98, 105, 116, 115, 32, 49, 10, 104, 32, 48, 10, 120, 32, 49, 32, 111, 110, 32, 48, 10, 109, 101, 97, 115, 117, 114, 101, 32, 49, 32, 116, 111, 32, 48, 32, 105, 102, 32, 33, 48, 10]⟩ := by
  have d0 : Lib.decDigits 0 = [48] := by rw [Lib.decDigits_one (by omega)]; rfl
  have d1 : Lib.decDigits 1 = [49] := by rw [Lib.decDigits_one (by omega)]; rfl
  have d2 : Lib.decDigits 2 = [50] := by rw [Lib.decDigits_one (by omega)]; rfl
  have n0 : numL 0 = [32, 48] := by show 32 :: Lib.decDigits 0 = _; rw [d0]
  have n1 : numL 1 = [32, 49] := by show 32 :: Lib.decDigits 1 = _; rw [d1]
  have n2 : numL 2 = [32, 50] := by show 32 :: Lib.decDigits 2 = _; rw [d2]
  have c1 : cndL (-1) = [32, 33, 48] := by show 32 :: 33 :: Lib.decDigits 0 = _; rw [d0]
  unfold prnV
  rw [smallC_chk]
  simp [prn, smallC, prnOp, n0, n1, n2, c1, usesK, usesQ, usesB, wordOf]

set_option maxHeartbeats 2000000 in
set_option maxRecDepth 100000 in
theorem small_any (w : World) : Calls Tryd.prog 29 #[] w fun e w' => (∃ ao, e = .returned (.agg #[.int .i64 2, .int .i64 1, .slice ao 3 3]) ∧ OpsAt w' ao 3 smallC.ops) ∧ Ext w w' := by
  go_enter Tryd.func29, Tryd.ntmps29
  go_wp2_with fail
  obtain ⟨A1, hA1⟩ : ∃ A1, w.alloc (.cells #[.int .i64 2, .int .i64 1, .slice (some ⟨w.heap.size + 1 + 1 + 1, 0, none⟩) 3 3] 24) = A1 := ⟨_, rfl⟩
  rw [hA1]
  obtain ⟨A2, hA2⟩ : ∃ A2, A1.alloc (.cells #[.int .i64 0] 3) = A2 := ⟨_, rfl⟩
  rw [hA2]
  obtain ⟨A3, hA3⟩ : ∃ A3, A2.alloc (.cells #[.int .i64 (-1)] 3) = A3 := ⟨_, rfl⟩
  rw [hA3]
  obtain ⟨A4, hA4⟩ : ∃ A4, A3.alloc (.cells #[.int .i64 3, .int .i64 0, .slice none 0 0, .int .i64 0, .int .i64 0, .slice none 0 0, .int .i64 2, .int .i64 0, .slice (some ⟨w.heap.size + 1, 0, none⟩) 1 1, .int .i64 1, .int .i64 0, .slice none 0 0, .int .i64 5, .int .i64 0, .slice none 0 0, .int .i64 1, .int .i64 0, .slice (some ⟨w.heap.size + 1 + 1, 0, none⟩) 1 1] 43) = A4 := ⟨_, rfl⟩
  rw [hA4]
  have s1 : A1.heap.size = w.heap.size + 1 := by rw [← hA1]; simp
  have s2 : A2.heap.size = w.heap.size + 1 + 1 := by rw [← hA2]; simp [s1]
  have s3 : A3.heap.size = w.heap.size + 1 + 1 + 1 := by rw [← hA3]; simp [s2]
  have x1 : Ext w A1 := by rw [← hA1]; exact ext_al _ _
  have x2 : Ext A1 A2 := by rw [← hA2]; exact ext_al _ _
  have x3 : Ext A2 A3 := by rw [← hA3]; exact ext_al _ _
  have x4 : Ext A3 A4 := by rw [← hA4]; exact ext_al _ _
  have r1 : A1.heap[w.heap.size]? = some (.cells #[.int .i64 2, .int .i64 1, .slice (some ⟨w.heap.size + 1 + 1 + 1, 0, none⟩) 3 3] 24 (0, 0)) := by rw [← hA1]; exact heap_alloc_new w _
  have r2 : A2.heap[w.heap.size + 1]? = some (.cells #[.int .i64 0] 3 (0, 0)) := by rw [← hA2, ← s1]; exact heap_alloc_new A1 _
  have r3 : A3.heap[w.heap.size + 1 + 1]? = some (.cells #[.int .i64 (-1)] 3 (0, 0)) := by rw [← hA3, ← s2]; exact heap_alloc_new A2 _
  have r4 : A4.heap[w.heap.size + 1 + 1 + 1]? = some (.cells #[.int .i64 3, .int .i64 0, .slice none 0 0, .int .i64 0, .int .i64 0, .slice none 0 0, .int .i64 2, .int .i64 0, .slice (some ⟨w.heap.size + 1, 0, none⟩) 1 1, .int .i64 1, .int .i64 0, .slice none 0 0, .int .i64 5, .int .i64 0, .slice none 0 0, .int .i64 1, .int .i64 0, .slice (some ⟨w.heap.size + 1 + 1, 0, none⟩) 1 1] 43 (0, 0)) := by rw [← hA4, ← s3]; exact heap_alloc_new A3 _
  have r3' := (x4.block _ (Array.getElem?_eq_some_iff.1 r3).1).trans r3
  have x34 := x3.trans x4
  have r2' := (x34.block _ (Array.getElem?_eq_some_iff.1 r2).1).trans r2
  have x24 := x2.trans x34
  have r1' := (x24.block _ (Array.getElem?_eq_some_iff.1 r1).1).trans r1
  have E := x1.trans x24
  clear hA1 hA2 hA3 hA4 s1 s2 s3 x1 x2 x3 x4 x34 x24 r1 r2 r3
  have c0 : A4.cell? ⟨w.heap.size, 0, none⟩ = some (.int .i64 2) := by rw [cell_of_row A4 _ 0 _ _ (0, 0) r1']; rfl
  have c1 : A4.cell? ⟨w.heap.size, 1, none⟩ = some (.int .i64 1) := by rw [cell_of_row A4 _ 1 _ _ (0, 0) r1']; rfl
  have c2 : A4.cell? ⟨w.heap.size, 2, none⟩ = some (.slice (some ⟨w.heap.size + 1 + 1 + 1, 0, none⟩) 3 3) := by rw [cell_of_row A4 _ 2 _ _ (0, 0) r1']; rfl
  have l2 := (Array.getElem?_eq_some_iff.1 r2').1; have l3 := (Array.getElem?_eq_some_iff.1 r3').1; have l4 := (Array.getElem?_eq_some_iff.1 r4).1
  have I0 : IntsAt A4 none 0 [] := ⟨rfl, Or.inl rfl⟩
  have I1 : IntsAt A4 (some ⟨w.heap.size + 1, 0, none⟩) 1 [0] := by
    refine ⟨rfl, Or.inr ⟨_, _, rfl, l2, fun t ht => ?_⟩⟩
    obtain rfl : t = 0 := by omega
    rw [cell_of_row A4 _ _ _ _ (0, 0) r2']; rfl
  have I2 : IntsAt A4 (some ⟨w.heap.size + 1 + 1, 0, none⟩) 1 [-1] := by
    refine ⟨rfl, Or.inr ⟨_, _, rfl, l3, fun t ht => ?_⟩⟩
    obtain rfl : t = 0 := by omega
    rw [cell_of_row A4 _ _ _ _ (0, 0) r3']; rfl
  refine bodyPost_ret (v := .agg #[.int .i64 2, .int .i64 1, .slice (some ⟨w.heap.size + 1 + 1 + 1, 0, none⟩) 3 3]) (by simp [results, Tryd.results29, go_sem, c0, c1, c2]) rfl ⟨⟨_, rfl, rfl, Or.inr ⟨_, _, rfl, l4, ?_⟩⟩, E⟩
  intro t g hg
  have ht : t = 0 ∨ t = 1 ∨ t = 2 := by
    have : t < smallC.ops.length := (List.getElem?_eq_some_iff.1 hg).1
    have : smallC.ops.length = 3 := rfl
    omega
  rcases ht with rfl | rfl | rfl
  · have : g = ⟨3, 0, [], 0, 0, []⟩ := by simpa [smallC] using hg.symm
    subst this
    refine ⟨none, 0, 0, none, 0, 0, ?_, ?_, ?_, ?_, ?_, ?_, ⟨I0, by omega, by omega, I0, by omega, by omega⟩⟩ <;> (rw [cell_of_row A4 _ _ _ _ (0, 0) r4]; rfl)
  · have : g = ⟨2, 0, [0], 1, 0, []⟩ := by simpa [smallC] using hg.symm
    subst this
    refine ⟨_, 1, 1, none, 0, 0, ?_, ?_, ?_, ?_, ?_, ?_, ⟨I1, by omega, by omega, I0, by omega, by omega⟩⟩ <;> (rw [cell_of_row A4 _ _ _ _ (0, 0) r4]; rfl)
  · have : g = ⟨5, 0, [], 1, 0, [-1]⟩ := by simpa [smallC] using hg.symm
    subst this
    refine ⟨none, 0, 0, _, 1, 1, ?_, ?_, ?_, ?_, ?_, ?_, ⟨I0, by omega, by omega, I2, by omega, by omega⟩⟩ <;> (rw [cell_of_row A4 _ _ _ _ (0, 0) r4]; rfl)

set_option maxHeartbeats 2000000 in
set_option maxRecDepth 100000 in
/-- The example's text is as the document has it. -/
theorem circBegun_any (w : World) (hS : Shp w) : Calls Tryd.prog 9 #[] w fun e w' => e = .returned (.bool true) ∧ Ext w w' := by
  have HS := Lib.hid hS
  clear hS
  go_enter Tryd.func9, Tryd.ntmps9
  go_wp2_with fail
  refine (small_any w).mono ?_
  rintro e w1 ⟨⟨ao, rfl, hO⟩, hx1⟩
  have hP := Print_any smallC ao 3 3 w1 hO (by omega) (by omega) (HS.out.ext hx1)
  rw [smallC_chk, smallC_prn] at hP
  have HP := Lib.hid hP; have HX1 := Lib.hid hx1
  clear hP hO hx1
  go_wp2_with fail
  refine HP.out.mono ?_
  rintro e w2 ⟨rfl, hx2⟩
  have HE := Lib.hid ((HX1.out.trans hx2).trans (ext_al w2 (.cells #[.int .i64 0, .int .i64 0] 28)))
  clear hx2 HX1
  go_wp2
  go_ret
  exact ⟨rfl, HE.out⟩

end Go.Proofs.YtapolidgocfbjaaDoor
