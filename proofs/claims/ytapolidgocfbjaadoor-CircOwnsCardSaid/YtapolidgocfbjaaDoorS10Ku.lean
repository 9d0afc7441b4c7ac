/-
  The program's Power: what it answers lies in memory of its own. What both sides answer, in one form: a circuit in memory of its own, and a fault. The reference's Control. Operations written over in place; the program's usesQubit and control. The program's Control. Qubits renumbered: in plain lists; lists written over in place; the program's move.
-/
import Derived.Test.YtapolidgocfbjaaDoorProg
import Derived.Test.YtapolidgocfbjaaDoorRows
import Derived.BigQuiet
import Derived.Deep.AppendLies
import Derived.Deep.Cut
import Derived.Deep.CutRange
import Derived.Deep.LoopGhost
import Derived.Deep.QuietTactic
import Derived.Deep.RegionHeld3
import Derived.Defers
import Derived.Laws.AppendOwnNone
import Derived.Laws.Bits64b
import Derived.Laws.Concat
import Derived.Laws.CopyOwn
import Derived.Laws.IdiomStrings
import Derived.Laws.ResultCell
import Derived.Lib.AppendStr
import Derived.Lib.AppendZeros
import Derived.Lib.AppendZerosOnto
import Derived.Lib.BitFns
import Derived.Lib.Hide
import Derived.Lib.ItoaMem
import Derived.Lib.ItoaNum
import Derived.Lib.Strings
import Derived.Maps.AppendAt
import Derived.OwnWalk
import Derived.Recover
import Derived.Shelf.LaysM
import Derived.Shelf.Strconv.Itoa0
import Derived.Shelf.Strconv.Itoa1
import Derived.Shelf.Strconv.Itoa2
import Derived.Shelf.Strconv.Itoa3
import Derived.Shelf.Strings.Builder1
import Derived.Shelf.Strings.BuilderF
import Derived.Shelf.Strings.BuilderK
import Derived.WalkKit
import Derived.WalkLawsBesides
import Derived.WalkSpells
import Derived.Test.YtapolidgocfbjaaDoorS00Ce
import Derived.Test.YtapolidgocfbjaaDoorS01Cj
import Derived.Test.YtapolidgocfbjaaDoorShelf
import Derived.Test.YtapolidgocfbjaaDoorS03Cq
import Derived.Test.YtapolidgocfbjaaDoorS04Jc
import Derived.Test.YtapolidgocfbjaaDoorS05Gb
import Derived.Test.YtapolidgocfbjaaDoorS06Ke
import Derived.Test.YtapolidgocfbjaaDoorS07Kf
import Derived.Test.YtapolidgocfbjaaDoorS08Kd
import Derived.Test.YtapolidgocfbjaaDoorS09Km
namespace Go.Proofs.YtapolidgocfbjaaDoor
open Go.RowKit

set_option maxHeartbeats 8000000 in
set_option maxRecDepth 100000 in
theorem Power_N (c : Gci) (ao : Option Addr) (n cp : Nat) (x : Int) (w : World) (h : OpsAt w ao n c.ops) (hn : n ≤ cp) (hcp : cp ≤ 9223372036854775807) (hS : Shp w) (hp : (pur c).1 = 0) (hx0 : -9223372036854775808 ≤ x) (hx1 : x ≤ 9223372036854775807) :
    Calls Tryd.prog 17 #[.agg #[.int .i64 c.qubits, .int .i64 c.bits, .slice ao n cp], .int .i64 x] w fun e w' =>
      ((0 < n ∧ 4096 / n < x.natAbs ∧ e = .returned (.tuple #[.agg #[.int .i64 0, .int .i64 0, .slice none 0 0], .agg #[.int .i64 2, .int .i64 0]])) ∨
       ((n = 0 ∨ x.natAbs ≤ 4096 / n) ∧ ∃ (a' : Option Addr) (m c' : Nat), m = (repO x.natAbs (onceO x c.ops)).length ∧ e = .returned (.tuple #[.agg #[.int .i64 c.qubits, .int .i64 c.bits, .slice a' m c'], .agg #[.int .i64 0, .int .i64 0]]) ∧ OpsN w' (w.heap.size + 3) (.slice a' m c') (repO x.natAbs (onceO x c.ops)))) ∧ Ext w w' := by
  obtain ⟨hck, hpz⟩ := pur_zero hp
  obtain ⟨hz, hq1, hq2, hb1, hb2, hl4, hop⟩ := chk_zero hck
  have hfit : ∀ g ∈ onceO x c.ops, g.ctl.length ≤ 1000 ∧ g.cnd.length ≤ 1000 := fun g hg => by
    have key : ∀ g ∈ c.ops, g.ctl.length ≤ 1000 ∧ g.cnd.length ≤ 1000 := fun g hg => by
      have f := prFit_of_code hq2 hb1 hb2 (hop g hg)
      exact ⟨Nat.le_trans f.few (by decide), Nat.le_trans f.cfew (by decide)⟩
    unfold onceO at hg
    split at hg
    · unfold invO at hg
      obtain ⟨g', hg', rfl⟩ := List.mem_map.1 hg
      exact key g' (List.mem_reverse.1 hg')
    · exact key g hg
  have hl : c.ops.length = n := h.1
  rw [hl] at hl4
  have HInv := Lib.hid (fun wx (hx : Ext w wx) => Inverse_yes c ao n cp wx (h.ext hx) hn hcp (hS.ext hx) hp)
  obtain ⟨qb, bi, ops⟩ := c
  simp only at hfit hl h HInv ⊢
  obtain ⟨os1, hos⟩ : ∃ y, onceO x ops = y := ⟨_, rfl⟩
  have Hosl := Lib.hid (show os1.length = n by rw [← hos, onceO_len]; exact hl)
  have HosN := Lib.hid (show x < 0 → invO ops = os1 from fun hx => by rw [← hos, onceO, if_pos hx])
  have HosP := Lib.hid (show ¬ x < 0 → ops = os1 from fun hx => by rw [← hos, onceO, if_neg hx])
  rw [hos] at hfit ⊢
  obtain ⟨tm, htm⟩ : ∃ y, x.natAbs = y := ⟨_, rfl⟩
  have htb : tm ≤ 9223372036854775808 := by rw [← htm]; omega
  rw [htm]
  obtain ⟨H, hH⟩ : ∃ H, w.heap.size = H := ⟨_, rfl⟩
  obtain ⟨A1, hA1⟩ : ∃ A1, w.alloc (.cells #[.int .i64 qb, .int .i64 bi, .slice ao n cp] 24) = A1 := ⟨_, rfl⟩
  obtain ⟨A2, hA2⟩ : ∃ A2, A1.alloc (.cells #[.int .i64 0, .int .i64 0, .slice none 0 0] 24) = A2 := ⟨_, rfl⟩
  obtain ⟨A3, hA3⟩ : ∃ A3, A2.alloc (.cells #[.int .i64 0, .int .i64 0] 28) = A3 := ⟨_, rfl⟩
  have s1 : A1.heap.size = H + 1 := by rw [← hA1, ← hH]; simp
  have s2 : A2.heap.size = H + 2 := by rw [← hA2]; simp; omega
  have s3 : A3.heap.size = H + 3 := by rw [← hA3]; simp; omega
  have x1 : Ext w A1 := by rw [← hA1]; exact ext_al _ _
  have x2 : Ext A1 A2 := by rw [← hA2]; exact ext_al _ _
  have x3 : Ext A2 A3 := by rw [← hA3]; exact ext_al _ _
  have bC : CiB A3 H qb bi ao n cp := by
    have : CiB A1 H qb bi ao n cp := by rw [← hA1, ← hH]; exact ⟨heap_alloc_new w _⟩
    exact (this.ext x2).ext x3
  have bR : CiB A3 (H + 1) 0 0 none 0 0 := by
    have : CiB A2 (H + 1) 0 0 none 0 0 := by rw [← hA2, ← s1]; exact ⟨heap_alloc_new A1 _⟩
    exact this.ext x3
  have bF : FtB A3 (H + 2) 0 0 := by rw [← hA3, ← s2]; exact ⟨heap_alloc_new A2 _⟩
  have E0 : Ext w A3 := (x1.trans x2).trans x3
  have hA : ((w.alloc (.cells #[.int .i64 qb, .int .i64 bi, .slice ao n cp] 24)).alloc (.cells #[.int .i64 0, .int .i64 0, .slice none 0 0] 24)).alloc (.cells #[.int .i64 0, .int .i64 0] 28) = A3 := by rw [hA1, hA2, hA3]
  have HK := Lib.hid (Pure_any ⟨qb, bi, ops⟩ ao n cp A3 (h.ext E0) hn hcp (hS.ext E0))
  rw [hpz] at HK
  simp only at HK
  have m0 := bC.x0; have m1 := bC.x1; have m2 := bC.x2
  rw [← hA] at m0 m1 m2
  have HA := Lib.hid hA; have HE0 := Lib.hid E0; have HC := Lib.hid bC; have HR := Lib.hid bR; have HFt := Lib.hid bF
  have Hops := Lib.hid h; have Hfit := Lib.hid hfit; have Hs3 := Lib.hid s3; have HhH := Lib.hid hH; have Htm := Lib.hid htm
  clear h hS hpz E0 bC bR bF x1 x2 x3 s1 s2 s3 hA1 hA2 hA3 hA hfit hl hck hz hq1 hq2 hb1 hb2 hop hp hos htm
  go_enter Tryd.func17, Tryd.ntmps17
  go_wp2_with fail
  rw [HA.out]
  refine HK.out.mono ?_
  rintro e w1 ⟨rfl, hx1'⟩
  have Ef := ext_al w1 (.cells #[.int .i64 0, .int .i64 0] 28)
  have bf1 : FtB (w1.alloc (.cells #[.int .i64 0, .int .i64 0] 28)) w1.heap.size 0 0 := ⟨heap_alloc_new w1 _⟩
  have q0 := bf1.x0; have q1 := bf1.x1
  have hX := hx1'.trans Ef
  have bC1 := HC.out.ext hX
  have y0 := bC1.x0; have y1 := bC1.x1; have y2 := bC1.x2
  have HC1 := Lib.hid bC1; have HR1 := Lib.hid (HR.out.ext hX); have HF1 := Lib.hid (HFt.out.ext hX); have HE1 := Lib.hid (HE0.out.trans hX)
  clear hx1' Ef bf1 hX bC1 HK HC HR HFt HE0 m0 m1 m2
  have EO := ext_al (w1.alloc (.cells #[.int .i64 0, .int .i64 0] 28)) (.cells #[.int .i64 qb, .int .i64 bi, .slice ao n cp] 24)
  have hszA : (w1.alloc (.cells #[.int .i64 0, .int .i64 0] 28)).heap.size = w1.heap.size + 1 := by simp
  have bOc : CiB ((w1.alloc (.cells #[.int .i64 0, .int .i64 0] 28)).alloc (.cells #[.int .i64 qb, .int .i64 bi, .slice ao n cp] 24)) (w1.heap.size + 1) qb bi ao n cp := by rw [← hszA]; exact ⟨heap_alloc_new _ _⟩
  have HbOc := Lib.hid bOc; have HC2 := Lib.hid (HC1.out.ext EO); have HR2 := Lib.hid (HR1.out.ext EO); have HF2 := Lib.hid (HF1.out.ext EO); have HE2 := Lib.hid (HE1.out.trans EO)
  have hlo : H + 3 ≤ w1.heap.size + 1 := by have h1 := HF1.out.lt; rw [hszA] at h1; omega
  clear EO hszA bOc HC1 HR1 HF1 HE1
  obtain ⟨ux, hux⟩ : ∃ y, IntKind.u64.wrap x = y := ⟨_, rfl⟩
  have Hux := Lib.hid hux
  go_upto_if 22 with fail
  generalize (w1.alloc (.cells #[.int .i64 0, .int .i64 0] 28)).alloc (.cells #[.int .i64 qb, .int .i64 bi, .slice ao n cp] 24) = W2 at *
  obtain ⟨Oc, hOc⟩ : ∃ y, w1.heap.size + 1 = y := ⟨_, rfl⟩
  rw [hOc] at HbOc hlo ⊢
  clear hOc
  clear q0 q1 y0 y1 y2
  go_cut [8] from 22 to 29 (fun s8 wx => s8 = .int .u64 (tm : Int) ∧ ∃ (aO : Option Addr) (cO : Nat), CiB wx Oc qb bi aO n cO ∧ OpsAt wx aO n os1 ∧ n ≤ cO ∧ cO ≤ 9223372036854775807 ∧ CiB wx H qb bi ao n cp ∧ CiB wx (H + 1) 0 0 none 0 0 ∧ FtB wx (H + 2) 0 0 ∧ Ext w wx ∧ Oc < wx.heap.size)
  case first =>
    by_cases hx : x < 0
    · have hd : decide (x < 0) = true := dt hx
      have y0 := HC2.out.x0; have y1 := HC2.out.x1; have y2 := HC2.out.x2
      have hng : IntKind.u64.wrap (-ux) = (tm : Int) := by
        have h1 := Hux.out
        have h2 := Htm.out
        rw [← h1]
        simp [IntKind.wrap, IntKind.bits, IntKind.signed]
        omega
      have HoE := Lib.hid (HosN.out hx)
      go_wp2_with fail
      refine (HInv.out W2 HE2.out).mono ?_
      rintro e w3 ⟨⟨aO, cO, rfl, hc1, hc2, hO⟩, hx3⟩
      obtain ⟨a9, c9, ev9, _, _, hat⟩ := hO.at
      injection ev9 with ea en ec
      subst ea; subst ec
      have hOb := HbOc.out.ext hx3
      have z0 := hOb.x0; have z1 := hOb.x1; have z2 := hOb.x2; have g0 := hOb.f 0; have g1 := hOb.f 1; have g2 := hOb.f 2
      have hO3 : Only Oc w3 (((w3.setCell ⟨Oc, 0, none⟩ (.int .i64 qb)).setCell ⟨Oc, 1, none⟩ (.int .i64 bi)).setCell ⟨Oc, 2, none⟩ (.slice aO n cO)) := (((Only.refl _ _).setCell _ _).setCell _ _).setCell _ _
      have hoF := hO.only hOb.row (by decide) hO3 (by simp) (by have := HbOc.out.lt; omega)
      obtain ⟨a8, c8, ev8, _, _, hat8⟩ := hoF.at
      injection ev8 with ea8 en8 ec8
      subst ea8; subst ec8
      rw [← en8, HoE.out] at hat8
      have HbZ := Lib.hid (((hOb.set0 qb).set1 bi).set2 aO n cO); have Hat := Lib.hid hat8
      have HCz := Lib.hid (show CiB (((w3.setCell ⟨Oc, 0, none⟩ (.int .i64 qb)).setCell ⟨Oc, 1, none⟩ (.int .i64 bi)).setCell ⟨Oc, 2, none⟩ (.slice aO n cO)) H qb bi ao n cp from ⟨(hO3.block _ (by omega)).trans (HC2.out.ext hx3).row⟩)
      have HRz := Lib.hid (show CiB (((w3.setCell ⟨Oc, 0, none⟩ (.int .i64 qb)).setCell ⟨Oc, 1, none⟩ (.int .i64 bi)).setCell ⟨Oc, 2, none⟩ (.slice aO n cO)) (H + 1) 0 0 none 0 0 from ⟨(hO3.block _ (by omega)).trans (HR2.out.ext hx3).row⟩)
      have HFz := Lib.hid (show FtB (((w3.setCell ⟨Oc, 0, none⟩ (.int .i64 qb)).setCell ⟨Oc, 1, none⟩ (.int .i64 bi)).setCell ⟨Oc, 2, none⟩ (.slice aO n cO)) (H + 2) 0 0 from ⟨(hO3.block _ (by omega)).trans (HF2.out.ext hx3).row⟩)
      have HEz := Lib.hid (cput (o := 2) (cput (o := 1) (cput (o := 0) (HE2.out.trans hx3) (show w.heap.size ≤ Oc by omega) (.int .i64 qb)) (show w.heap.size ≤ Oc by omega) (.int .i64 bi)) (show w.heap.size ≤ Oc by omega) (.slice aO n cO))
      have Hc1 := Lib.hid hc1; have Hc2 := Lib.hid hc2
      clear hx3 hO hat hOb hO3 hoF hat8 hc1 hc2 y0 y1 y2 en en8
      go_wp2_with fail
      go_meet
      exact ⟨rfl, aO, cO, HbZ.out, Hat.out, Hc1.out, by have := Hc2.out; unfold maxLen at this; omega, HCz.out, HRz.out, HFz.out, HEz.out, HbZ.out.lt⟩
    · have hd : decide (x < 0) = false := df hx
      have hut : ux = (tm : Int) := by
        have h1 := Hux.out
        have h2 := Htm.out
        rw [← h1]
        simp [IntKind.wrap, IntKind.bits, IntKind.signed]
        omega
      have Hut := Lib.hid hut
      have HoE := Lib.hid (HosP.out (by omega))
      clear hut
      go_wp2_with fail
      go_meet
      exact ⟨congrArg (fun y => Value.int .u64 y) Hut.out, ao, cp, HbOc.out, by rw [← HoE.out]; exact Hops.out.ext HE2.out, hn, hcp, HC2.out, HR2.out, HF2.out, HE2.out, HbOc.out.lt⟩
  case rest =>
  obtain ⟨rfl, aO, cO, hbO, hat, hcO1, hcO2, hC, hR, hF, hE, hOl⟩ := hcut
  clear HbOc HC2 HR2 HF2 HE2 HInv HosN HosP hux Hops
  generalize wc = V at *
  have y2 := hC.x2
  have wn : IntKind.u64.wrap (n : Int) = (n : Int) := by simp [IntKind.wrap, IntKind.bits, IntKind.signed]; omega
  have HbO := Lib.hid hbO; have Hat := Lib.hid hat; have HC := Lib.hid hC; have HR := Lib.hid hR; have HF := Lib.hid hF; have HE := Lib.hid hE
  clear hbO hat hC hR hF hE
  by_cases hbig : 0 < n ∧ 4096 / n < tm
  · obtain ⟨d, hd⟩ : ∃ y, 4096 / n = y := ⟨_, rfl⟩
    have hd4 : d ≤ 4096 := by rw [← hd]; exact Nat.div_le_self _ _
    have p0 : (0 : Int) < (n : Int) := by omega
    have p0' : decide ((0 : Int) < (n : Int)) = true := dt p0
    have hq : (4096 : Int).tdiv (n : Int) = (d : Int) := by rw [← hd]; exact Int.ofNat_tdiv 4096 n
    have nz : ¬ (n : Int) = 0 := by omega
    have wd : IntKind.u64.wrap (d : Int) = (d : Int) := by simp [IntKind.wrap, IntKind.bits, IntKind.signed]; omega
    have hgt : (d : Int) < (tm : Int) := by have := hbig.2; omega
    have hgt' : decide ((d : Int) < (tm : Int)) = true := dt hgt
    have r0 := HR.out.x0; have r1 := HR.out.x1; have r2 := HR.out.x2; have g0 := HR.out.f 0; have g1 := HR.out.f 1; have g2 := HR.out.f 2
    have f0 := HF.out.x0; have f1 := HF.out.x1; have k0 := HF.out.f 0; have k1 := HF.out.f 1
    have zC := putCF_C HR.out (show H + 1 ≠ H + 2 by omega) 0 0 none 0 0 2 0
    have zF := putCF_F HF.out (show H + 1 ≠ H + 2 by omega) 0 0 none 0 0 2 0
    have HzE := Lib.hid (putCF_ext HE.out (show w.heap.size ≤ H + 1 by omega) (show w.heap.size ≤ H + 2 by omega) 0 0 none 0 0 2 0 : Ext w (putCF V (H + 1) (H + 2) 0 0 none 0 0 2 0))
    obtain ⟨Wz, hWz⟩ : ∃ Wz, putCF V (H + 1) (H + 2) 0 0 none 0 0 2 0 = Wz := ⟨_, rfl⟩
    rw [hWz] at zC zF HzE
    unfold putCF at hWz
    have HWz := Lib.hid hWz; have Hbig := Lib.hid hbig
    have v0 := zC.x0; have v1 := zC.x1; have v2 := zC.x2; have v3 := zF.x0; have v4 := zF.x1
    clear zC zF hWz hbig hd hd4
    go_wp2_with fail
    rw [HWz.out]
    exact bodyPost_ret (v := .tuple #[.agg #[.int .i64 0, .int .i64 0, .slice none 0 0], .agg #[.int .i64 2, .int .i64 0]]) (by simp [results, Tryd.results17, go_sem, v0, v1, v2, v3, v4]) rfl ⟨Or.inl ⟨Hbig.out.1, Hbig.out.2, rfl⟩, HzE.out⟩
  · have hsm : n = 0 ∨ tm ≤ 4096 / n := by
      by_cases h0 : n = 0
      · exact Or.inl h0
      · exact Or.inr (Nat.le_of_not_lt fun hh => hbig ⟨by omega, hh⟩)
    obtain ⟨nt, hnt⟩ : ∃ y, n * tm = y := ⟨_, rfl⟩
    have hnt4 : nt ≤ 4096 := by
      rw [← hnt]
      rcases hsm with h0 | h0
      · rw [h0, Nat.zero_mul]; omega
      · exact Nat.le_trans (Nat.mul_le_mul_left n h0) (Nat.mul_div_le 4096 n)
    have Hsm := Lib.hid hsm; have Hnt := Lib.hid hnt
    have wm : IntKind.u64.wrap ((n : Int) * (tm : Int)) = (nt : Int) := by
      have : (n : Int) * (tm : Int) = (nt : Int) := by rw [← hnt]; simp
      rw [this]
      simp [IntKind.wrap, IntKind.bits, IntKind.signed]; omega
    clear hsm hbig hnt
    go_upto_region 9 with fail
    go_cut [41] from 34 to 41 (fun s41 wx => s41 = .bool false ∧ wx = V)
    case first =>
      by_cases h0 : n = 0
      · have p0' : decide ((0 : Int) < (n : Int)) = false := df (by omega)
        have p1 : ¬ (0 : Int) < (n : Int) := by omega
        clear h0
        go_wp2_with fail
        go_meet
        exact ⟨rfl, rfl⟩
      · obtain ⟨d, hd⟩ : ∃ y, 4096 / n = y := ⟨_, rfl⟩
        have hd4 : d ≤ 4096 := by rw [← hd]; exact Nat.div_le_self _ _
        have p0 : (0 : Int) < (n : Int) := by omega
        have p0' : decide ((0 : Int) < (n : Int)) = true := dt p0
        have hq : (4096 : Int).tdiv (n : Int) = (d : Int) := by rw [← hd]; exact Int.ofNat_tdiv 4096 n
        have nz : ¬ (n : Int) = 0 := by omega
        have wd : IntKind.u64.wrap (d : Int) = (d : Int) := by simp [IntKind.wrap, IntKind.bits, IntKind.signed]; omega
        have hgt : ¬ (d : Int) < (tm : Int) := by have := Hsm.out; omega
        have hgt' : decide ((d : Int) < (tm : Int)) = false := df hgt
        clear hd hd4 h0
        go_wp2_with fail
        go_meet
        exact ⟨rfl, rfl⟩
    case rest =>
    obtain ⟨rfl, rfl⟩ := hcut
    have HVs := Lib.hid (Nat.le_refl wc.heap.size)
    obtain ⟨j0, hji, hjz0, hjz1, hjz2⟩ := info_parts op_info
    have HV := Lib.hid (Eq.refl wc)
    go_wp2_with fail
    go_loopg [10] tm (fun kk s10 wx => ∃ k : Nat, k ≤ tm ∧ tm - k = kk ∧ OpsL wc wx wc.heap.size s10 (repO k os1) ∧ Ext wc wx)
    case atStart => exact ⟨0, Nat.zero_le _, rfl, OpsL.nil _ _ _, Ext.refl _⟩
    case round =>
      obtain ⟨k, hkt, hkk, hO, hX⟩ := hrel
      obtain ⟨av, cv, evv, hcv1, hcv2, hatv⟩ := hO.at hX
      have hlk : (repO k os1).length = k * n := by rw [repO_len, Hosl.out]
      obtain ⟨kn, hkn⟩ : ∃ y, k * n = y := ⟨_, rfl⟩
      rw [hlk, hkn] at evv hcv1 hatv
      subst evv
      have hknb : kn ≤ nt := by rw [← hkn, ← Hnt.out, Nat.mul_comm k n]; exact Nat.mul_le_mul_left n hkt
      have wk : IntKind.u64.wrap (kn : Int) = (kn : Int) := by simp [IntKind.wrap, IntKind.bits, IntKind.signed]; omega
      by_cases hlt : kn < nt
      · have q1 : (kn : Int) < (nt : Int) := by omega
        have q1' : decide ((kn : Int) < (nt : Int)) = true := dt q1
        have hn0 : 0 < n := by
          rcases Nat.eq_zero_or_pos n with h0 | h0
          · rw [h0, Nat.mul_zero] at hkn; rw [← Hnt.out, h0, Nat.zero_mul] at hlt; omega
          · exact h0
        have hkl : k < tm := by
          rcases Nat.lt_or_ge k tm with h0 | h0
          · exact h0
          · have := Nat.mul_le_mul_left n h0
            rw [Hnt.out, Nat.mul_comm n k, hkn] at this; omega
        have hkn1 : kn + n ≤ nt := by
          have := Nat.mul_le_mul_left n hkl
          rw [Hnt.out, Nat.mul_succ, Nat.mul_comm n k, hkn] at this; omega
        have yb := (HbO.out.ext hX).x2
        obtain ⟨ob, oo, eoo⟩ := (Hat.out).some_of hn0
        subst eoo
        obtain ⟨ys, hyl, hyc, hyo, hyr⟩ := opsAt_cells Hat.out
        obtain ⟨xs, hown, hxr⟩ := hO
        rw [hlk, hkn] at hown
        have Hyc := Lib.hid (fun j u (hu : ys[j]? = some u) => (hX.cell (p := (⟨ob, oo, none⟩ : Addr).add j) (by
          have h1 := World.block_lt_of_cell? _ _ (hyc j u hu)
          exact h1)).trans (hyc j u hu))
        have Hown := Lib.hid hown; have Hxr := Lib.hid hxr; have Hyr := Lib.hid hyr; have Hyo := Lib.hid hyo; have Hyl := Lib.hid hyl; have HX := Lib.hid hX
        have Hkn := Lib.hid hkn; have Hlk := Lib.hid hlk; have Hkl := Lib.hid hkl
        clear hown hxr hyr hyo hyc hatv hX hlk hkn hlt
        go_wp2_with (at_builtin; refine wpList_append_own_at _ rfl _ _ 22 rfl wc.heap.size 43 j0 (.agg #[.int .i64 0, .int .i64 0, .slice none 0 0, .int .i64 0, .int .i64 0, .slice none 0 0]) 6 80 Tryd.underlying22 hji hjz0 hjz1 hjz2 rfl (by decide) _ kn xs rfl Hown.out ⟨ob, oo, none⟩ n cO ys rfl Hyl.out Hyc.out Hyo.out (by unfold maxLen; omega) (by omega) HX.out.size ?_; intro v' w7 hown' hgrow' _ _)
        have HO7 := Lib.hid (show OpsL wc w7 wc.heap.size v' (repO (k + 1) os1) by
          rw [repO_succ]
          refine OpsL.app (by rw [Hlk.out, Hkn.out]; exact Hown.out.1) (by rw [Hlk.out, Hkn.out, Hosl.out]; exact hown') Hxr.out Hyr.out)
        have HX7 := Lib.hid (grown_ext HX.out hgrow' (fun q hq => (own_lt Hown.out q hq).1))
        go_roundg (tm - (k + 1))
        case measure => have := Hkl.out; omega
        case rel => exact ⟨k + 1, Hkl.out, rfl, HO7.out, HX7.out⟩
      · have q1 : ¬ (kn : Int) < (nt : Int) := by omega
        have q1' : decide ((kn : Int) < (nt : Int)) = false := df q1
        have heq : repO k os1 = repO tm os1 := by
          rcases Nat.eq_zero_or_pos n with h0 | h0
          · have : os1 = [] := List.length_eq_zero_iff.1 (by rw [Hosl.out]; exact h0)
            rw [this]
            simp [repO]
          · have h1 : n * k = n * tm := by rw [Hnt.out, Nat.mul_comm n k, hkn]; omega
            rw [Nat.eq_of_mul_eq_mul_left h0 h1]
        have hC := HC.out.ext hX
        have y0 := hC.x0; have y1 := hC.x1; have y2 := hC.x2
        have hlk2 : (repO tm os1).length = kn := by rw [← heq, hlk, hkn]
        rw [heq] at hatv
        have Hatv := Lib.hid hatv; have Hlk2 := Lib.hid hlk2
        have HRx := Lib.hid (HR.out.ext hX); have HFx := Lib.hid (HF.out.ext hX); have HEx := Lib.hid (HE.out.trans hX)
        have Hbs := Lib.hid (show H + 3 ≤ wr.heap.size by have h1 := HF.out.lt; have h2 := hX.size; omega)
        clear hatv hlk2 hX hC heq hlk hkn hlt hO hcv1 hcv2 hkt hkk
        go_wp2_with fail
        refine (with_N qb bi ao n cp av kn cv (repO tm os1) wr Hatv.out (by omega) (fun g hg => Hfit.out g (repO_mem hg))).mono ?_
        rintro e w5 ⟨⟨a5, c5, rfl, hO5⟩, hx5⟩
        have bR5 := HRx.out.ext hx5; have bF5 := HFx.out.ext hx5
        have r0 := bR5.x0; have r1 := bR5.x1; have r2 := bR5.x2; have g0 := bR5.f 0; have g1 := bR5.f 1; have g2 := bR5.f 2
        have f0 := bF5.x0; have f1 := bF5.x1; have k0 := bF5.f 0; have k1 := bF5.f 1
        have zC := putCF_C bR5 (show H + 1 ≠ H + 2 by omega) qb bi a5 kn c5 0 0
        have zF := putCF_F bF5 (show H + 1 ≠ H + 2 by omega) qb bi a5 kn c5 0 0
        have zO := putCF_opsN hO5 bR5 bF5 (show H + 1 ≠ H + 2 by omega) qb bi a5 kn c5 0 0
        have zE : Ext w (putCF w5 (H + 1) (H + 2) qb bi a5 kn c5 0 0) := putCF_ext (HEx.out.trans hx5) (show w.heap.size ≤ H + 1 by omega) (show w.heap.size ≤ H + 2 by omega) _ _ _ _ _ _ _
        obtain ⟨Wz, hWz⟩ : ∃ Wz, putCF w5 (H + 1) (H + 2) qb bi a5 kn c5 0 0 = Wz := ⟨_, rfl⟩
        rw [hWz] at zC zF zO zE
        unfold putCF at hWz
        have HWz := Lib.hid hWz; have HzE := Lib.hid zE; have HzO := Lib.hid (zO.down (show H + 3 ≤ wr.heap.size + 3 by have := Hbs.out; omega))
        have v0 := zC.x0; have v1 := zC.x1; have v2 := zC.x2; have v3 := zF.x0; have v4 := zF.x1
        clear zC zF zO zE hWz bR5 bF5 hO5 hx5
        go_wp2_with fail
        rw [HWz.out]
        exact bodyPost_ret (v := .tuple #[.agg #[.int .i64 qb, .int .i64 bi, .slice a5 kn c5], .agg #[.int .i64 0, .int .i64 0]]) (by simp [results, Tryd.results17, go_sem, v0, v1, v2, v3, v4]) rfl ⟨Or.inr ⟨Hsm.out, a5, kn, c5, Hlk2.out.symm, rfl, by rw [HhH.out]; exact HzO.out⟩, HzE.out⟩

end Go.Proofs.YtapolidgocfbjaaDoor
namespace Go.Proofs.YtapolidgocfbjaaDoor
open Go.RowKit

/-- A circuit and a fault are answered, the circuit in memory that is not older than w. -/
def Ans (w w' : World) (e : Ending) (r : (Int × Int) × Gci) : Prop :=
  ∃ (a : Option Addr) (m c : Nat), e = .returned (.tuple #[.agg #[.int .i64 r.2.qubits, .int .i64 r.2.bits, .slice a m c], .agg #[.int .i64 r.1.1, .int .i64 r.1.2]]) ∧ OpsN w' w.heap.size (.slice a m c) r.2.ops
/-- No circuit. -/
def noC : Gci := ⟨0, 0, []⟩
theorem Ans.none {w w' : World} {e : Ending} {F : Int × Int} (h : e = .returned (.tuple #[.agg #[.int .i64 0, .int .i64 0, .slice none 0 0], .agg #[.int .i64 F.1, .int .i64 F.2]])) : Ans w w' e (F, noC) := ⟨.none, 0, 0, h, OpsN.nil _ _⟩

def invM (c : Gci) : (Int × Int) × Gci := if (pur c).1 ≠ 0 then (pur c, noC) else ((0, 0), ⟨c.qubits, c.bits, invO c.ops⟩)
def powM (c : Gci) (x : Int) : (Int × Int) × Gci :=
  if (pur c).1 ≠ 0 then (pur c, noC) else if 0 < c.ops.length ∧ 4096 / c.ops.length < x.natAbs then ((2, 0), noC) else ((0, 0), ⟨c.qubits, c.bits, repO x.natAbs (onceO x c.ops)⟩)
def thnM (a b : Gci) : (Int × Int) × Gci := if (thnF a b).1 ≠ 0 then (thnF a b, noC) else ((0, 0), ⟨a.qubits, a.bits, a.ops ++ b.ops⟩)

section
variable (c : Gci) (ao : Option Addr) (n cp : Nat) (w : World) (h : OpsAt w ao n c.ops) (hn : n ≤ cp) (hcp : cp ≤ 9223372036854775807)
include h hn hcp
theorem Inverse_U (hS : Shp w) : Calls Tryd.prog 7 #[.agg #[.int .i64 c.qubits, .int .i64 c.bits, .slice ao n cp]] w fun e w' => Ans w w' e (invM c) ∧ Ext w w' := by
  unfold invM
  by_cases hp : (pur c).1 ≠ 0
  · rw [if_pos hp]
    exact (Inverse_no c ao n cp w h hn hcp hS hp).mono fun e w' h => ⟨Ans.none h.1, h.2⟩
  · rw [if_neg hp]
    refine (Inverse_N c ao n cp w h hn hcp hS (by omega)).mono ?_
    rintro e w' ⟨⟨a', c', rfl, hO⟩, hx⟩
    exact ⟨⟨a', n, c', rfl, hO.down (by omega)⟩, hx⟩
theorem RInverse_U : Calls Tryd.prog 8 #[.agg #[.int .i64 c.qubits, .int .i64 c.bits, .slice ao n cp]] w fun e w' => Ans w w' e (invM c) ∧ Ext w w' := by
  unfold invM
  by_cases hp : (pur c).1 ≠ 0
  · rw [if_pos hp]
    exact (RInverse_no c ao n cp w h hn hcp hp).mono fun e w' h => ⟨Ans.none h.1, h.2⟩
  · rw [if_neg hp]
    refine (RInverse_yes c ao n cp w h hn hcp (by omega)).mono ?_
    rintro e w' ⟨⟨a', c', rfl, hO⟩, hx⟩
    exact ⟨⟨a', n, c', rfl, hO⟩, hx⟩
theorem Power_U (x : Int) (hS : Shp w) (hx0 : -9223372036854775808 ≤ x) (hx1 : x ≤ 9223372036854775807) : Calls Tryd.prog 17 #[.agg #[.int .i64 c.qubits, .int .i64 c.bits, .slice ao n cp], .int .i64 x] w fun e w' => Ans w w' e (powM c x) ∧ Ext w w' := by
  have hl := h.1
  unfold powM
  by_cases hp : (pur c).1 ≠ 0
  · rw [if_pos hp]
    exact (Power_no c ao n cp x w h hn hcp hS hp).mono fun e w' h => ⟨Ans.none h.1, h.2⟩
  · rw [if_neg hp, hl]
    refine (Power_N c ao n cp x w h hn hcp hS (by omega) hx0 hx1).mono ?_
    rintro e w' ⟨⟨h1, h2, rfl⟩ | ⟨h1, a', m, c', h2, rfl, hO⟩, hx⟩
    · rw [if_pos ⟨h1, h2⟩]
      exact ⟨Ans.none rfl, hx⟩
    · rw [if_neg (by rcases h1 with h1 | h1 <;> omega)]
      exact ⟨⟨a', m, c', rfl, hO.down (by omega)⟩, hx⟩
theorem RPower_U (x : Int) (hx0 : -9223372036854775808 ≤ x) (hx1 : x ≤ 9223372036854775807) : Calls Tryd.prog 18 #[.agg #[.int .i64 c.qubits, .int .i64 c.bits, .slice ao n cp], .int .i64 x] w fun e w' => Ans w w' e (powM c x) ∧ Ext w w' := by
  have hl := h.1
  unfold powM
  by_cases hp : (pur c).1 ≠ 0
  · rw [if_pos hp]
    exact (RPower_no c ao n cp x w h hn hcp hp).mono fun e w' h => ⟨Ans.none h.1, h.2⟩
  · rw [if_neg hp, hl]
    refine (RPower_yes c ao n cp x w h hn hcp (by omega) hx0 hx1).mono ?_
    rintro e w' ⟨⟨h1, h2, rfl⟩ | ⟨h1, a', m, c', h2, rfl, hO⟩, hx⟩
    · rw [if_pos ⟨h1, h2⟩]
      exact ⟨Ans.none rfl, hx⟩
    · rw [if_neg (by rcases h1 with h1 | h1 <;> omega)]
      exact ⟨⟨a', m, c', rfl, hO⟩, hx⟩
end
section
variable (a b : Gci) (ao : Option Addr) (n cp : Nat) (bo : Option Addr) (m cq : Nat) (w : World) (hA : OpsAt w ao n a.ops) (hB : OpsAt w bo m b.ops) (hn : n ≤ cp) (hcp : cp ≤ 9223372036854775807) (hm : m ≤ cq) (hcq : cq ≤ 9223372036854775807)
include hA hB hn hcp hm hcq
theorem Then_U (hna : ao = none → cp = 0) (hnb : bo = none → cq = 0) (hS : Shp w) : Calls Tryd.prog 19 #[.agg #[.int .i64 a.qubits, .int .i64 a.bits, .slice ao n cp], .agg #[.int .i64 b.qubits, .int .i64 b.bits, .slice bo m cq]] w fun e w' => Ans w w' e (thnM a b) ∧ Ext w w' := by
  unfold thnM
  refine (Then_any a b ao n cp bo m cq w hA hB hn hcp hm hcq hna hnb hS).mono ?_
  rintro e w' ⟨⟨h1, rfl⟩ | ⟨h1, a', c', rfl, hO⟩, hx⟩
  · rw [if_pos h1]
    exact ⟨Ans.none rfl, hx⟩
  · rw [if_neg (by omega)]
    exact ⟨⟨a', n + m, c', rfl, hO⟩, hx⟩
theorem RThen_U : Calls Tryd.prog 20 #[.agg #[.int .i64 a.qubits, .int .i64 a.bits, .slice ao n cp], .agg #[.int .i64 b.qubits, .int .i64 b.bits, .slice bo m cq]] w fun e w' => Ans w w' e (thnM a b) ∧ Ext w w' := by
  unfold thnM
  by_cases h1 : (thnF a b).1 ≠ 0
  · rw [if_pos h1]
    exact (RThen_no a b ao n cp bo m cq w hA hB hn hcp hm hcq h1).mono fun e w' h => ⟨Ans.none h.1, h.2⟩
  · rw [if_neg h1]
    refine (RThen_yes a b ao n cp bo m cq w hA hB hn hcp hm hcq (by omega)).mono ?_
    rintro e w' ⟨⟨a', c', rfl, hO⟩, hx⟩
    exact ⟨⟨a', n + m, c', rfl, hO⟩, hx⟩
end
/-- A row of the call's own that is nil has no room. -/
theorem OpsN.nil_cap {w : World} {base : Nat} {a : Option Addr} {n c : Nat} {ops : List Gop} (h : OpsN w base (.slice a n c) ops) : a = none → c = 0 := by
  intro e
  subst e
  obtain ⟨xs, hx⟩ := h
  rcases hx.own.2 with ⟨e, _⟩ | ⟨g, cap, cur, e, _⟩
  · injection e with _ _ e3
  · injection e with e1
    cases e1

end Go.Proofs.YtapolidgocfbjaaDoor
namespace Go.Proofs.YtapolidgocfbjaaDoor
open Go.RowKit

theorem OpBx.store {W : World} {g : Nat} {k0 k1 : Int} {a1 : Option Addr} {n1 c1 : Nat} {k3 k4 : Int} {a2 : Option Addr} {n2 c2 : Nat} (h : OpBx W g k0 k1 a1 n1 c1 k3 k4 a2 n2 c2) (j0 j1 : Int) (b1 : Option Addr) (m1 d1 : Nat) (j3 j4 : Int) (b2 : Option Addr) (m2 d2 : Nat) :
    OpBx ((((((W.setCell ⟨g, 0, none⟩ (.int .i64 j0)).setCell ⟨g, 1, none⟩ (.int .i64 j1)).setCell ⟨g, 2, none⟩ (.slice b1 m1 d1)).setCell ⟨g, 3, none⟩ (.int .i64 j3)).setCell ⟨g, 4, none⟩ (.int .i64 j4)).setCell ⟨g, 5, none⟩ (.slice b2 m2 d2)) g j0 j1 b1 m1 d1 j3 j4 b2 m2 d2 :=
  ⟨row_put (row_put (row_put (row_put (row_put (row_put h.row rfl) rfl) rfl) rfl) rfl) rfl⟩

end Go.Proofs.YtapolidgocfbjaaDoor
namespace Go.Proofs.YtapolidgocfbjaaDoor
open Go.RowKit

theorem Iow.keep1 {w w' : World} {base : Nat} {a : Option Addr} {n c : Nat} {l : List Int} (h : Iow w base a n c l) (hk : ∀ k, (Value.slice a n c).ownBlock = some k → w'.heap[k]? = w.heap[k]?) : Iow w' base a n c l := own_keep3 h hk
/-- The first i of them are turned by f. -/
def mapF (f : Gop → Gop) (ops : List Gop) (i : Nat) : List Gop := (ops.take i).map f ++ ops.drop i
theorem mapF_len (f : Gop → Gop) (ops : List Gop) (i : Nat) : (mapF f ops i).length = ops.length := by
  unfold mapF
  simp only [List.length_append, List.length_map, List.length_take, List.length_drop]
  omega
theorem mapF_get {f : Gop → Gop} {ops : List Gop} {i t : Nat} (ht : t < ops.length) : (mapF f ops i)[t]? = if t < i then ops[t]?.map f else ops[t]? := by
  unfold mapF
  by_cases h : t < i
  · rw [if_pos h, List.getElem?_append_left (by rw [List.length_map, List.length_take]; omega), List.getElem?_map, List.getElem?_take, if_pos h]
  · rw [if_neg h, List.getElem?_append_right (by rw [List.length_map, List.length_take]; omega), List.length_map, List.length_take, List.getElem?_drop]
    congr 1; omega
theorem mapF_zero (f : Gop → Gop) (ops : List Gop) : mapF f ops 0 = ops := by simp [mapF]
theorem mapF_all {f : Gop → Gop} {ops : List Gop} {i : Nat} (h : ops.length ≤ i) : mapF f ops i = ops.map f := by
  unfold mapF
  rw [List.take_of_length_le h, List.drop_eq_nil_of_le h, List.append_nil]
/-- An operation of a row is written over. -/
theorem rowF_set {w w' : World} {base : Nat} {f : Gop → Gop} {cs : Array Value} {ops : List Gop} {n i : Nat} {g g' : Gop} {b1 : Option Addr} {m1 d1 : Nat} {b2 : Option Addr} {m2 d2 : Nat} (hl : ops.length = n) (hi : i < n) (hsz : n * 6 ≤ cs.size) (h : RowF w base (fun p => cs[p]?) (mapF f ops i)) (hg : ops[i]? = some g) (hg' : f g = g')
    (hk : ∀ t x a1 n1 c1 a2 n2 c2, t ≠ i → t < n → cs[t * 6 + 2]? = some (.slice a1 n1 c1) → cs[t * 6 + 5]? = some (.slice a2 n2 c2) → OpN w base x a1 n1 c1 a2 n2 c2 → OpN w' base x a1 n1 c1 a2 n2 c2) (hn : OpN w' base g' b1 m1 d1 b2 m2 d2) :
    RowF w' base (fun p => (set6 cs (i * 6) (opF g' b1 m1 d1 b2 m2 d2))[p]?) (mapF f ops (i + 1)) := by
  intro t x hx
  have ht : t < n := by have := (List.getElem?_eq_some_iff.1 hx).1; rw [mapF_len, hl] at this; exact this
  rw [mapF_get (by omega)] at hx
  by_cases e : t = i
  · subst e
    rw [if_pos (by omega), hg] at hx
    simp only [Option.map_some, Option.some.injEq] at hx
    rw [hg'] at hx
    subst hx
    have hin := fun k hk => set6_in cs (t * 6) (opF g' b1 m1 d1 b2 m2 d2) k hk (by omega)
    exact ⟨b1, m1, d1, b2, m2, d2, hin 0 (by omega), hin 1 (by omega), hin 2 (by omega), hin 3 (by omega), hin 4 (by omega), hin 5 (by omega), hn⟩
  · have hx' : (mapF f ops i)[t]? = some x := by
      rw [mapF_get (by omega)]
      by_cases e3 : t < i
      · rw [if_pos e3]; rw [if_pos (by omega)] at hx; exact hx
      · rw [if_neg e3]; rw [if_neg (by omega)] at hx; exact hx
    obtain ⟨x1, x2, x3, x4, x5, x6, y0, y1, y2, y3, y4, y5, y6⟩ := h t x hx'
    have hout : ∀ k, k < 6 → (set6 cs (i * 6) (opF g' b1 m1 d1 b2 m2 d2))[t * 6 + k]? = cs[t * 6 + k]? := fun k hk => set6_out _ _ _ _ (by omega)
    exact ⟨x1, x2, x3, x4, x5, x6, (hout 0 (by omega)).trans y0, (hout 1 (by omega)).trans y1, (hout 2 (by omega)).trans y2, (hout 3 (by omega)).trans y3, (hout 4 (by omega)).trans y4, (hout 5 (by omega)).trans y5, hk t x _ _ _ _ _ _ e ht y2 y5 y6⟩
theorem sepF_set {cs : Array Value} {n i : Nat} {g' : Gop} {b1 : Option Addr} {m1 d1 : Nat} {b2 : Option Addr} {m2 d2 : Nat} (hi : i < n) (hsz : n * 6 ≤ cs.size) (h : SepF (n * 6) (fun p => cs[p]?))
    (h2 : ∀ k p u, (Value.slice b1 m1 d1).ownBlock = some k → p < n * 6 → p / 6 ≠ i → cs[p]? = some u → u.ownBlock ≠ some k)
    (h5 : ∀ k p u, (Value.slice b2 m2 d2).ownBlock = some k → p < n * 6 → p / 6 ≠ i → cs[p]? = some u → u.ownBlock ≠ some k)
    (h25 : ∀ k, (Value.slice b1 m1 d1).ownBlock = some k → (Value.slice b2 m2 d2).ownBlock ≠ some k) :
    SepF (n * 6) (fun p => (set6 cs (i * 6) (opF g' b1 m1 d1 b2 m2 d2))[p]?) := by
  have key : ∀ (p : Nat) (u : Value) (k : Nat), p < n * 6 → (set6 cs (i * 6) (opF g' b1 m1 d1 b2 m2 d2))[p]? = some u → u.ownBlock = some k → (p / 6 ≠ i ∧ cs[p]? = some u) ∨ (p = i * 6 + 2 ∧ (Value.slice b1 m1 d1).ownBlock = some k) ∨ (p = i * 6 + 5 ∧ (Value.slice b2 m2 d2).ownBlock = some k) := by
    intro p u k hp hu hk
    by_cases e : p / 6 = i
    · right
      obtain ⟨r, hr, rfl⟩ : ∃ r, r < 6 ∧ p = i * 6 + r := ⟨p % 6, by omega, by omega⟩
      rw [set6_in cs (i * 6) _ r hr (by omega)] at hu
      injection hu with hu
      subst hu
      rcases (show r = 0 ∨ r = 1 ∨ r = 2 ∨ r = 3 ∨ r = 4 ∨ r = 5 by omega) with rfl | rfl | rfl | rfl | rfl | rfl
      · simp [opF, Value.ownBlock] at hk
      · simp [opF, Value.ownBlock] at hk
      · exact Or.inl ⟨rfl, hk⟩
      · simp [opF, Value.ownBlock] at hk
      · simp [opF, Value.ownBlock] at hk
      · exact Or.inr ⟨rfl, hk⟩
    · left
      rw [set6_out _ _ _ _ (by omega)] at hu
      exact ⟨e, hu⟩
  intro p q k u v hp hq eu ev ku kv
  rcases key p u k hp eu ku with ⟨a1, a2⟩ | ⟨a1, a2⟩ | ⟨a1, a2⟩ <;> rcases key q v k hq ev kv with ⟨c1, c2⟩ | ⟨c1, c2⟩ | ⟨c1, c2⟩
  · exact h p q k u v hp hq a2 c2 ku kv
  · exact absurd ku (h2 k p u c2 hp a1 a2)
  · exact absurd ku (h5 k p u c2 hp a1 a2)
  · exact absurd kv (h2 k q v a2 hq c1 c2)
  · omega
  · exact absurd c2 (h25 k a2)
  · exact absurd kv (h5 k q v a2 hq c1 c2)
  · exact absurd a2 (h25 k c2)
  · omega

end Go.Proofs.YtapolidgocfbjaaDoor
namespace Go.Proofs.YtapolidgocfbjaaDoor
open Go.RowKit

set_option maxHeartbeats 1000000 in
theorem stepK_storeO {ops : Array Oper} {o : Oper} {a : Act} {K : Act → World → Prop} {Q : Exit → Act → World → Prop} {E : Prop} {w : World} (hgd : o.guard = none) (hd : o.dst = none) (p x : Operand)
    (ho : o.op = .store 43 p x) (b off : Nat) (y0 y1 : Int) (b1 : Option Addr) (n1 d1 : Nat) (y3 y4 : Int) (b2 : Option Addr) (n2 d2 : Nat) (u0 u1 u2 u3 u4 u5 : Value) (hp : a.eval p = .pointer (some ⟨b, off, none⟩)) (hx : a.eval x = .agg #[.int .i64 y0, .int .i64 y1, .slice b1 n1 d1, .int .i64 y3, .int .i64 y4, .slice b2 n2 d2])
    (h0 : w.cell? ⟨b, off, none⟩ = some u0) (h1 : w.cell? ⟨b, off + 1, none⟩ = some u1) (h2 : w.cell? ⟨b, off + 2, none⟩ = some u2) (h3 : w.cell? ⟨b, off + 3, none⟩ = some u3) (h4 : w.cell? ⟨b, off + 4, none⟩ = some u4) (h5 : w.cell? ⟨b, off + 5, none⟩ = some u5) (f : ∀ k, w.frozen? ⟨b, k, none⟩ = false)
    (h : K a ((((((w.setCell ⟨b, off, none⟩ (.int .i64 y0)).setCell ⟨b, off + 1, none⟩ (.int .i64 y1)).setCell ⟨b, off + 2, none⟩ (.slice b1 n1 d1)).setCell ⟨b, off + 3, none⟩ (.int .i64 y3)).setCell ⟨b, off + 4, none⟩ (.int .i64 y4)).setCell ⟨b, off + 5, none⟩ (.slice b2 n2 d2))) :
    if Region.wanted o (yielded ops a.tmps) = true then Oper.wp Tryd.prog o a w K Q else E := by
  have hw : Region.wanted o (yielded ops a.tmps) = true := by simp [Region.wanted, hgd]
  rw [if_pos hw]
  obtain ⟨od, oo, ot, opp, oa, og⟩ := o
  simp only at ho hd
  subst ho hd
  have HH := Lib.hid h
  have f0 := f off; have f1 := f (off + 1); have f2 := f (off + 2); have f3 := f (off + 3); have f4 := f (off + 4); have f5 := f (off + 5)
  clear h f
  unfold Oper.wp execOp
  simp only [hp, hx]
  go_simp
  exact HH.out

end Go.Proofs.YtapolidgocfbjaaDoor
namespace Go.Proofs.YtapolidgocfbjaaDoor
open Go.RowKit

def tq (tl : List Int) (q : Int) : Int := tl.getD q.toNat 0
/-- An operation on the qubits' new numbers. -/
def movO (tl : List Int) (g : Gop) : Gop := ⟨g.kind, g.k, g.ctl.map (tq tl), if g.kind = 1 then g.q else tq tl g.q, g.bit, g.cnd⟩
/-- The first place where the new numbers are none. -/
def mpF (m : Int) (tl : List Int) : Nat → List Int → Int × Int
  | _, [] => (0, 0)
  | i, x :: r => if below x m = false ∨ x ∈ tl.take i then (17, (i : Int)) else mpF m tl (i + 1) r
def movF (c : Gci) (tl : List Int) (m : Int) : Int × Int :=
  if (chk c).1 ≠ 0 then chk c else if m < 1 ∨ 12 < m then (6, 0) else if (tl.length : Int) ≠ c.qubits then (17, 0) else mpF m tl 0 tl
def movM (c : Gci) (tl : List Int) (m : Int) : (Int × Int) × Gci := if (movF c tl m).1 ≠ 0 then (movF c tl m, noC) else ((0, 0), ⟨m, c.bits, c.ops.map (movO tl)⟩)
theorem mpF_step (m : Int) (tl : List Int) (i : Nat) (h : i < tl.length) : mpF m tl i (tl.drop i) = if below (tl.getD i 0) m = false ∨ tl.getD i 0 ∈ tl.take i then (17, (i : Int)) else mpF m tl (i + 1) (tl.drop (i + 1)) := by
  have h3 : tl.getD i 0 = tl[i] := by rw [List.getD_eq_getElem?_getD, List.getElem?_eq_getElem h]; rfl
  rw [List.drop_eq_getElem_cons h, mpF, h3]
theorem mpF_end (m : Int) (tl : List Int) (i : Nat) (h : tl.length ≤ i) : mpF m tl i (tl.drop i) = (0, 0) := by
  rw [List.drop_eq_nil_of_le h]; rfl
theorem movM_no {c : Gci} {tl : List Int} {m u v : Int} (h : movF c tl m = (u, v)) (hu : u ≠ 0) : movM c tl m = ((u, v), noC) := by
  unfold movM
  rw [h, if_pos hu]
theorem movM_yes {c : Gci} {tl : List Int} {m : Int} (h : movF c tl m = (0, 0)) : movM c tl m = ((0, 0), ⟨m, c.bits, c.ops.map (movO tl)⟩) := by
  unfold movM
  rw [h, if_neg (by simp)]
theorem q_below {g : Gop} {n b : Int} (h : opCode g n b = 0) (hk : ¬ g.kind = 1) : 0 ≤ g.q ∧ g.q < n := by
  unfold opCode at h
  split at h
  · omega
  split at h
  · omega
  split at h
  · omega
  · next h3 =>
    have hu : usesQ g.kind = true := by unfold usesQ; simp [hk]
    unfold fitsB at h3
    rw [hu, if_pos rfl] at h3
    exact below_iff.1 (by simpa using h3)

/-- A number of a list is written over. -/
theorem Iow.put {w : World} {base g n c i : Nat} {l : List Int} (h : Iow w base (some ⟨g, 0, none⟩) n c l) (_hi : i < n) (v : Int) : Iow (w.setCell ⟨g, i, none⟩ (.int .i64 v)) base (some ⟨g, 0, none⟩) n c (l.set i v) := by
  obtain ⟨h1, h2⟩ := h
  refine ⟨by rw [iC_length, List.length_set]; simpa [iC] using h1, ?_⟩
  rcases h2 with ⟨e, _⟩ | ⟨g', cap, cur, e, hb, hg, hn, hm, hs, ht⟩
  · injection e with e1; cases e1
  · injection e with e1 e2 e3
    cases e1
    subst e3
    refine Or.inr ⟨g, c, cur.setIfInBounds i (.int .i64 v), rfl, hb, row_put hg rfl, hn, hm, by simpa using hs, ?_⟩
    rw [Array.toList_setIfInBounds, List.take_set, ht]
    unfold iC
    rw [List.map_set]
theorem Iow.cell {w : World} {base g n c : Nat} {l : List Int} (h : Iow w base (some ⟨g, 0, none⟩) n c l) (i : Nat) (hi : i < n) : w.cell? ⟨g, i, none⟩ = some (.int .i64 (l.getD i 0)) ∧ w.frozen? ⟨g, i, none⟩ = false ∧ ∃ cs, w.heap[g]? = some (.cells cs 3 (0, 0)) := by
  obtain ⟨_, _, h3, _⟩ := h.ints
  obtain ⟨b, o, e, _, hc⟩ := h3.at (by omega)
  cases e
  have h4 := hc i hi
  rw [Nat.zero_add] at h4
  rcases h.2 with ⟨e, _⟩ | ⟨g', cap, cur, e, hb, hg, _⟩
  · injection e with e1; cases e1
  · injection e with e1
    cases e1
    exact ⟨h4, frozen_of_row w g i _ _ hg, cur, hg⟩
theorem Iow.addr {w : World} {base n c : Nat} {a : Option Addr} {l : List Int} (h : Iow w base a n c l) (hn : 0 < n) : ∃ g, a = some ⟨g, 0, none⟩ := by
  rcases h.2 with ⟨_, e⟩ | ⟨g, cap, cur, e, _⟩
  · omega
  · injection e with e1; exact ⟨g, e1⟩
/-- The first j of them are turned by f. -/
def mapI (f : Int → Int) (l : List Int) (j : Nat) : List Int := (l.take j).map f ++ l.drop j
theorem mapI_len (f : Int → Int) (l : List Int) (j : Nat) : (mapI f l j).length = l.length := by
  unfold mapI
  simp only [List.length_append, List.length_map, List.length_take, List.length_drop]
  omega
theorem mapI_zero (f : Int → Int) (l : List Int) : mapI f l 0 = l := by simp [mapI]
theorem mapI_all {f : Int → Int} {l : List Int} {j : Nat} (h : l.length ≤ j) : mapI f l j = l.map f := by
  unfold mapI
  rw [List.take_of_length_le h, List.drop_eq_nil_of_le h, List.append_nil]
theorem mapI_get {f : Int → Int} {l : List Int} {j : Nat} (h : j < l.length) : (mapI f l j).getD j 0 = l.getD j 0 := by
  unfold mapI
  rw [List.getD_eq_getElem?_getD, List.getElem?_append_right (by rw [List.length_map, List.length_take]; omega), List.length_map, List.length_take, List.getElem?_drop, List.getD_eq_getElem?_getD]
  congr 2; omega
theorem mapI_set {f : Int → Int} {l : List Int} {j : Nat} (h : j < l.length) : (mapI f l j).set j (f (l.getD j 0)) = mapI f l (j + 1) := by
  have h3 : l.getD j 0 = l[j] := by rw [List.getD_eq_getElem?_getD, List.getElem?_eq_getElem h]; rfl
  unfold mapI
  have hl : ((l.take j).map f).length = j := by rw [List.length_map, List.length_take]; omega
  rw [List.set_append_right _ _ (by omega), hl, Nat.sub_self, List.drop_eq_getElem_cons h, List.set_cons_zero, List.take_add_one, List.getElem?_eq_getElem h, List.map_append, h3]
  simp

/-- A row whose operations are taken one by one. -/
theorem mapF_set {f : Gop → Gop} {ops : List Gop} {i : Nat} {g : Gop} (h : ops[i]? = some g) : (mapF f ops i).set i (f g) = mapF f ops (i + 1) := by
  obtain ⟨hi, e⟩ := List.getElem?_eq_some_iff.1 h
  unfold mapF
  have hl : ((ops.take i).map f).length = i := by rw [List.length_map, List.length_take]; omega
  rw [List.set_append_right _ _ (by omega), hl, Nat.sub_self, List.drop_eq_getElem_cons hi, List.set_cons_zero, List.take_add_one, h, List.map_append]
  simp
/-- An operation's list is written over: the other lists lie elsewhere. -/
theorem rowF_list {w w' : World} {base : Nat} {f : Nat → Option Value} {L : List Gop} {n i : Nat} {g' : Gop} {a1 : Option Addr} {n1 c1 : Nat} {a2 : Option Addr} {n2 c2 : Nat} (hl : L.length = n) (hS : SepF (n * 6) f) (h : RowF w base f L) (hi : i < n) (hgn : OpN w' base g' a1 n1 c1 a2 n2 c2)
    (f0 : f (i * 6) = some (.int .i64 g'.kind)) (f1 : f (i * 6 + 1) = some (.int .i64 g'.k)) (f2 : f (i * 6 + 2) = some (.slice a1 n1 c1)) (f3 : f (i * 6 + 3) = some (.int .i64 g'.q)) (f4 : f (i * 6 + 4) = some (.int .i64 g'.bit)) (f5 : f (i * 6 + 5) = some (.slice a2 n2 c2))
    (hk : ∀ k, k < w.heap.size → (Value.slice a1 n1 c1).ownBlock ≠ some k → w'.heap[k]? = w.heap[k]?) : RowF w' base f (L.set i g') := by
  intro t x hx
  have ht : t < n := by have := (List.getElem?_eq_some_iff.1 hx).1; rw [List.length_set, hl] at this; exact this
  by_cases e : t = i
  · subst e
    rw [List.getElem?_set_self (by omega)] at hx
    injection hx with hx
    subst hx
    exact ⟨a1, n1, c1, a2, n2, c2, f0, f1, f2, f3, f4, f5, hgn⟩
  · rw [List.getElem?_set_ne (fun h => e h.symm)] at hx
    obtain ⟨x1, x2, x3, x4, x5, x6, y0, y1, y2, y3, y4, y5, y6⟩ := h t x hx
    refine ⟨x1, x2, x3, x4, x5, x6, y0, y1, y2, y3, y4, y5, ⟨y6.i1.keep1 (fun k hk1 => hk k (y6.i1.lt k hk1).2 (fun e2 => ?_)), y6.i2.keep1 (fun k hk1 => hk k (y6.i2.lt k hk1).2 (fun e2 => ?_)), y6.ne⟩⟩
    · have := hS (t * 6 + 2) (i * 6 + 2) k _ _ (by omega) (by omega) y2 f2 hk1 e2; omega
    · have := hS (t * 6 + 5) (i * 6 + 2) k _ _ (by omega) (by omega) y5 f2 hk1 e2; omega

set_option maxHeartbeats 4000000 in
set_option maxRecDepth 100000 in
theorem move_any (o : Gop) (a1 : Option Addr) (n1 c1 : Nat) (a2 : Option Addr) (n2 c2 base : Nat) (tl : List Int) (ta : Option Addr) (tn tc : Nat) (w wt : World) (h : Iow w base a1 n1 c1 o.ctl) (ht : IntsAt wt ta tn tl) (htw : Ext wt w) (hbt : wt.heap.size ≤ base) (_htc : tn ≤ tc) (_htm : tc ≤ 9223372036854775807) (hn : n1 ≤ 1000)
    (h1 : 1 ≤ o.kind) (h6 : o.kind ≤ 6) (hq : ¬ o.kind = 1 → 0 ≤ o.q ∧ o.q < (tn : Int)) (hcl : ∀ x ∈ o.ctl, 0 ≤ x ∧ x < (tn : Int)) (hS : Shp w) :
    Calls Tryd.prog 39 #[.agg #[.int .i64 o.kind, .int .i64 o.k, .slice a1 n1 c1, .int .i64 o.q, .int .i64 o.bit, .slice a2 n2 c2], .slice ta tn tc] w fun e w' =>
      e = .returned (.agg #[.int .i64 o.kind, .int .i64 o.k, .slice a1 n1 c1, .int .i64 (movO tl o).q, .int .i64 o.bit, .slice a2 n2 c2]) ∧ Iow w' base a1 n1 c1 (movO tl o).ctl ∧ w.grownBy w' (Value.slice a1 n1 c1).ownBlock := by
  obtain ⟨kd, k, ctl, qq, bb, cnd⟩ := o
  unfold movO
  simp only at h h1 h6 hq hcl ⊢
  obtain ⟨kn, rfl⟩ : ∃ m : Nat, kd = (m : Int) := ⟨kd.toNat, by omega⟩
  obtain ⟨q', hq'⟩ : ∃ y, (if (kn : Int) = 1 then qq else tq tl qq) = y := ⟨_, rfl⟩
  rw [hq']
  obtain ⟨H, hH⟩ : ∃ H, w.heap.size = H := ⟨_, rfl⟩
  obtain ⟨A1, hA1⟩ : ∃ A1, w.alloc (.cells #[.int .i64 (kn : Int), .int .i64 k, .slice a1 n1 c1, .int .i64 qq, .int .i64 bb, .slice a2 n2 c2] 43) = A1 := ⟨_, rfl⟩
  obtain ⟨A2, hA2⟩ : ∃ A2, A1.alloc (.cells #[.int .i64 0, .int .i64 0, .slice none 0 0, .int .i64 0, .int .i64 0, .slice none 0 0] 43) = A2 := ⟨_, rfl⟩
  have s1 : A1.heap.size = H + 1 := by rw [← hA1, ← hH]; simp
  have s2 : A2.heap.size = H + 2 := by rw [← hA2]; simp; omega
  have x1 : Ext w A1 := by rw [← hA1]; exact ext_al _ _
  have x2 : Ext A1 A2 := by rw [← hA2]; exact ext_al _ _
  have bx : OpBx A2 H (kn : Int) k a1 n1 c1 qq bb a2 n2 c2 := by
    have : OpBx A1 H (kn : Int) k a1 n1 c1 qq bb a2 n2 c2 := by rw [← hA1, ← hH]; exact opbx_new w _ k a1 n1 c1 qq bb a2 n2 c2
    exact this.ext x2
  have br : OpBx A2 (H + 1) 0 0 none 0 0 0 0 none 0 0 := by rw [← hA2, ← s1]; exact opbx_new A1 0 0 none 0 0 0 0 none 0 0
  have hA : (w.alloc (.cells #[.int .i64 (kn : Int), .int .i64 k, .slice a1 n1 c1, .int .i64 qq, .int .i64 bb, .slice a2 n2 c2] 43)).alloc (.cells #[.int .i64 0, .int .i64 0, .slice none 0 0, .int .i64 0, .int .i64 0, .slice none 0 0] 43) = A2 := by rw [hA1, hA2]
  have E0 := x1.trans x2
  have sh2 := cell_ext (hS kn (by omega) (by omega)).2.2.1 E0
  have Hl := Lib.hid (show ctl.length = n1 from h.ints.2.2.1.1)
  have Hlt1 := Lib.hid (show ∀ k, (Value.slice a1 n1 c1).ownBlock = some k → base ≤ k ∧ k < H from fun k hk => by have := h.lt k hk; rw [hH] at this; exact this)
  have HA := Lib.hid hA; have HE0 := Lib.hid E0; have Hbx := Lib.hid bx; have Hbr := Lib.hid br; have HI := Lib.hid (h.ext E0); have Hs2 := Lib.hid s2; have HhH := Lib.hid hH
  have Ht := Lib.hid ht; have HtwW := Lib.hid htw; have Htw := Lib.hid (htw.trans E0); have Hq' := Lib.hid hq'; have Hq := Lib.hid hq; have Hcl := Lib.hid hcl; have Hbt := Lib.hid hbt
  have i0 : (0 : Int) ≤ (kn : Int) := by omega
  have i1 : (kn : Int) < 7 := by omega
  obtain ⟨uq, huq⟩ : ∃ y, usesQ (kn : Int) = y := ⟨_, rfl⟩
  rw [huq] at sh2
  have Huq := Lib.hid (show uq = !((kn : Int) == 1) from huq.symm)
  clear h ht htw hq hcl hS h1 h6 hA1 hA2 s1 s2 x1 x2 bx br hA E0 hq' huq hbt
  go_enter Tryd.func39, Tryd.ntmps39
  go_upto_region 1 with fail
  rw [HA.out]
  have m0 := Hbx.out.x0
  go_upto_if 11 with fail
  go_cut [] from 7 to 17 (fun wx => OpBx wx H (kn : Int) k a1 n1 c1 q' bb a2 n2 c2 ∧ Only H A2 wx)
  case first =>
    have m3 := Hbx.out.x3; have f3 := Hbx.out.f 3
    by_cases hk : (kn : Int) = 1
    · have hu := Huq.out
      rw [eq_t hk] at hu
      subst hu
      have hqe := Hq'.out
      rw [if_pos hk] at hqe
      have Hqe := Lib.hid hqe
      clear hk hqe
      go_wp2_with fail
      go_meet
      exact ⟨by rw [← Hqe.out]; exact Hbx.out, Only.refl _ _⟩
    · have hu := Huq.out
      rw [bf' hk] at hu
      subst hu
      have hqe := Hq'.out
      rw [if_neg hk] at hqe
      obtain ⟨hq0, hq1⟩ := Hq.out hk
      obtain ⟨qn, rfl⟩ : ∃ m : Nat, qq = (m : Int) := ⟨qq.toNat, by omega⟩
      obtain ⟨tb, tof, rfl, htb, htc'⟩ := (Ht.out.ext Htw.out).at (by omega)
      have t3 := htc' qn (by omega)
      have htv : tl.getD qn 0 = q' := by rw [← hqe]; rfl
      rw [htv] at t3
      have HO := Lib.hid (only1 A2 H 3 (.int .i64 q'))
      have Hb3 := Lib.hid (show OpBx (A2.setCell ⟨H, 3, none⟩ (.int .i64 q')) H (kn : Int) k a1 n1 c1 q' bb a2 n2 c2 from ⟨heap_setCell_same A2 H 3 _ _ (.int .i64 q') Hbx.out.row⟩)
      clear htc' hk hqe htv htb
      go_wp2_with fail
      go_meet
      exact ⟨Hb3.out, HO.out⟩
  case rest =>
  obtain ⟨bx, hOn⟩ := hcut
  have hsz := Hs2.out
  have HIc := Lib.hid (HI.out.keep (only_ints Hbx.out.row (by decide) hOn))
  have Hbr2 := Lib.hid (show OpBx wc (H + 1) 0 0 none 0 0 0 0 none 0 0 from ⟨(hOn.block _ (by omega)).trans Hbr.out.row⟩)
  have Hgr := Lib.hid (show w.grownBy wc (Value.slice a1 n1 c1).ownBlock from ⟨hOn.os.trans HE0.out.os, hOn.tape.trans HE0.out.tape, hOn.output.trans HE0.out.output, by rw [hOn.size]; exact HE0.out.size, fun k hk _ => (hOn.block k (by omega)).trans (HE0.out.block k hk)⟩)
  have m2 := bx.x2
  have Hbx2 := Lib.hid bx
  have Hsc := Lib.hid (show wc.heap.size = H + 2 by rw [hOn.size]; exact hsz)
  clear bx hOn HI Hbr Hbx HE0 m0 sh2 hsz
  go_wp2_with fail
  clear m2
  go_loopg [5, 6, 21] n1 (fun kk s5 s6 s21 wx => ∃ i : Nat, s21 = .int .i64 (i : Int) ∧ i ≤ n1 ∧ n1 - i = kk ∧ OpBx wx H (kn : Int) k a1 n1 c1 q' bb a2 n2 c2 ∧ OpBx wx (H + 1) 0 0 none 0 0 0 0 none 0 0 ∧ Iow wx base a1 n1 c1 (mapI (tq tl) ctl i) ∧ w.grownBy wx (Value.slice a1 n1 c1).ownBlock ∧ H + 2 ≤ wx.heap.size)
  case atStart => exact ⟨0, rfl, by omega, by omega, Hbx2.out, Hbr2.out, by rw [mapI_zero]; exact HIc.out, Hgr.out, by rw [Hsc.out]; exact Nat.le_refl _⟩
  case round =>
    clear Hbx2 Hbr2 HIc Hgr
    obtain ⟨i, rfl, hin', hk, bx, br, hI, hgr, hsz⟩ := hrel
    by_cases hin : i = n1
    · have q1 : ¬ (i : Int) < (n1 : Int) := by omega
      have q1' : decide ((i : Int) < (n1 : Int)) = false := df q1
      rw [mapI_all (by rw [Hl.out]; omega)] at hI
      have m0 := bx.x0; have m1 := bx.x1; have m2 := bx.x2; have m3 := bx.x3; have m4 := bx.x4; have m5 := bx.x5
      have r0 := br.x0; have r1 := br.x1; have r2 := br.x2; have r3 := br.x3; have r4 := br.x4; have r5 := br.x5
      have g0 := br.f 0; have g1 := br.f 1; have g2 := br.f 2; have g3 := br.f 3; have g4 := br.f 4; have g5 := br.f 5
      have hO := onl6 wr (H + 1) (.int .i64 (kn : Int)) (.int .i64 k) (.slice a1 n1 c1) (.int .i64 q') (.int .i64 bb) (.slice a2 n2 c2)
      have Hbz := Lib.hid (br.store (kn : Int) k a1 n1 c1 q' bb a2 n2 c2)
      have HIz := Lib.hid (hI.keep (only_ints br.row (by decide) hO))
      have Hgz := Lib.hid (show w.grownBy _ (Value.slice a1 n1 c1).ownBlock from ⟨hO.os.trans hgr.os, hO.tape.trans hgr.tape, hO.output.trans hgr.output, by rw [hO.size]; exact hgr.size, fun k hk he => (hO.block k (by omega)).trans (hgr.block k hk he)⟩)
      clear bx br hI hgr hsz hO hin hin' hk
      go_wp2_with fail
      generalize (((((wr.setCell ⟨H + 1, 0, none⟩ (.int .i64 (kn : Int))).setCell ⟨H + 1, 1, none⟩ (.int .i64 k)).setCell ⟨H + 1, 2, none⟩ (.slice a1 n1 c1)).setCell ⟨H + 1, 3, none⟩ (.int .i64 q')).setCell ⟨H + 1, 4, none⟩ (.int .i64 bb)).setCell ⟨H + 1, 5, none⟩ (.slice a2 n2 c2) = Wz at *
      have z0 := Hbz.out.x0; have z1 := Hbz.out.x1; have z2 := Hbz.out.x2; have z3 := Hbz.out.x3; have z4 := Hbz.out.x4; have z5 := Hbz.out.x5
      exact bodyPost_ret (v := .agg #[.int .i64 (kn : Int), .int .i64 k, .slice a1 n1 c1, .int .i64 q', .int .i64 bb, .slice a2 n2 c2]) (by simp [results, Tryd.results39, go_sem, z0, z1, z2, z3, z4, z5]) rfl ⟨rfl, HIz.out, Hgz.out⟩
    · have q1 : (i : Int) < (n1 : Int) := by omega
      have q1' : decide ((i : Int) < (n1 : Int)) = true := dt q1
      have p0 : (0 : Int) ≤ (i : Int) := by omega
      obtain ⟨g1, rfl⟩ := hI.addr (by omega)
      obtain ⟨c0, f0, cs, hcs⟩ := hI.cell i (by omega)
      rw [mapI_get (by rw [Hl.out]; omega)] at c0
      obtain ⟨x, hx⟩ : ∃ y, ctl.getD i 0 = y := ⟨_, rfl⟩
      have hxm : x ∈ ctl := by
        rw [← hx, List.getD_eq_getElem?_getD, List.getElem?_eq_getElem (by rw [Hl.out]; omega)]
        exact List.getElem_mem _
      obtain ⟨hx0, hx1⟩ := Hcl.out x hxm
      obtain ⟨xn, rfl⟩ : ∃ m : Nat, x = (m : Int) := ⟨x.toNat, by omega⟩
      rw [hx] at c0
      obtain ⟨tb, tof, rfl, htb, htc'⟩ := Ht.out.at (by omega)
      obtain ⟨hg1b, hg1H⟩ := Hlt1.out g1 rfl
      have t0 : wr.cell? ⟨tb, tof + xn, none⟩ = some (.int .i64 (tl.getD xn 0)) := by
        have h1 := htc' xn (by omega)
        have h2 := cell_ext h1 HtwW.out
        exact hgr.cell h2 (fun e => by have e' : tb = g1 := Option.some.inj e; have := Hbt.out; omega)
      obtain ⟨v, hv⟩ : ∃ y, tl.getD xn 0 = y := ⟨_, rfl⟩
      have hvt : tq tl (ctl.getD i 0) = v := by rw [hx]; exact hv
      rw [hv] at t0
      have hIs := hI.put (i := i) (show i < n1 by omega) v
      rw [← hvt, mapI_set (by rw [Hl.out]; omega), hvt] at hIs
      have hO := only1 wr g1 i (.int .i64 v)
      have HIz := Lib.hid (hIs.ext (cdrew (Ext.refl _)))
      have nH : H ≠ g1 := by omega
      have nH1 : H + 1 ≠ g1 := by omega
      have bz : OpBx (wr.setCell ⟨g1, i, none⟩ (.int .i64 v)) H (kn : Int) k (some ⟨g1, 0, none⟩) n1 c1 q' bb a2 n2 c2 := ⟨(hO.block _ nH).trans bx.row⟩
      have rz : OpBx (wr.setCell ⟨g1, i, none⟩ (.int .i64 v)) (H + 1) 0 0 none 0 0 0 0 none 0 0 := ⟨(hO.block _ nH1).trans br.row⟩
      have Hbz := Lib.hid (bz.ext (cdrew (Ext.refl _))); have Hrz := Lib.hid (rz.ext (cdrew (Ext.refl _)))
      have Hgz := Lib.hid (show w.grownBy (wr.setCell ⟨g1, i, none⟩ (.int .i64 v)).drew (Value.slice (some ⟨g1, 0, none⟩) n1 c1).ownBlock from ⟨hO.os.trans hgr.os, hO.tape.trans hgr.tape, hO.output.trans hgr.output, by show w.heap.size ≤ (wr.setCell ⟨g1, i, none⟩ (.int .i64 v)).heap.size; rw [hO.size]; exact hgr.size, fun k hk he => (hO.block k (fun e => he (by rw [e]; rfl))).trans (hgr.block k hk he)⟩)
      have Hsz := Lib.hid (show H + 2 ≤ (wr.setCell ⟨g1, i, none⟩ (.int .i64 v)).drew.heap.size by show H + 2 ≤ (wr.setCell ⟨g1, i, none⟩ (.int .i64 v)).heap.size; rw [hO.size]; exact hsz)
      have m2 := bx.x2
      have Hk := Lib.hid hk
      clear bx br hI hgr hsz hIs hO bz rz hcs htc' htb hx hxm hv hvt hk hin
      go_upto_region 6 with fail
      go_region
      generalize (wr.setCell ⟨g1, i, none⟩ (.int .i64 v)).drew = Wd at *
      clear c0 f0 t0 m2
      go_wp2_with fail
      go_roundg (n1 - (i + 1))
      case measure => have := Hk.out; omega
      case rel => exact ⟨i + 1, by go_num, by omega, rfl, Hbz.out, Hrz.out, HIz.out, Hgz.out, Hsz.out⟩

end Go.Proofs.YtapolidgocfbjaaDoor
