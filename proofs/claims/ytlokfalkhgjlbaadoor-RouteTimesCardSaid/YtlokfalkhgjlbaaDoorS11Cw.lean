/-
  RouteTimes' walk. The table of kinds, as it is laid; what is asked behind a call that leaves all that lay there as it was.
-/
import Derived.Test.YtlokfalkhgjlbaaDoorProg
import Derived.Test.YtlokfalkhgjlbaaDoorRows
import Derived.BigQuiet
import Derived.Carry
import Derived.ChangeSame
import Derived.Deep.AppendLies
import Derived.Deep.Cut
import Derived.Deep.CutRange
import Derived.Deep.LoopGhost
import Derived.Deep.QuietTactic
import Derived.Deep.RegionHeld3
import Derived.Deep.Slices
import Derived.FnData
import Derived.Ground.Names2Prog
import Derived.Laws.Bits64b
import Derived.Laws.CopyOwn
import Derived.Laws.ResultCell
import Derived.Lib.AppendZeros
import Derived.Lib.BitFns
import Derived.Lib.Hide
import Derived.Lib.ItoaMem
import Derived.Lib.ItoaNum
import Derived.Lib.MinMax
import Derived.Lib.Strings
import Derived.Lib.TrailingZeros
import Derived.Maps.AppendAt
import Derived.OpenShut
import Derived.OrdersHeld
import Derived.OrdersIn
import Derived.OwnWalk
import Derived.ProofKit
import Derived.RangeFuncCalls
import Derived.RangeFuncFrom
import Derived.RegionTactic
import Derived.Shelf.Slices.Clone
import Derived.Shelf.Slices.Turned
import Derived.Shelf.Spec.TrailingZeros
import Derived.SizedLaws
import Derived.Stop.LaidErr
import Derived.WalkKit
import Derived.WalkLawsBesides
import Derived.WalkSpells
import Derived.Test.YtlokfalkhgjlbaaDoorS00Ce
import Derived.Test.YtlokfalkhgjlbaaDoorS01Cj
import Derived.Test.YtlokfalkhgjlbaaDoorShelf
import Derived.Test.YtlokfalkhgjlbaaDoorS03Ma
import Derived.Test.YtlokfalkhgjlbaaDoorS04Mg
import Derived.Test.YtlokfalkhgjlbaaDoorS05Mm
import Derived.Test.YtlokfalkhgjlbaaDoorS06Mn
import Derived.Test.YtlokfalkhgjlbaaDoorS07Ms
import Derived.Test.YtlokfalkhgjlbaaDoorS08Cu
import Derived.Test.YtlokfalkhgjlbaaDoorS09Oi
import Derived.Test.YtlokfalkhgjlbaaDoorS10Dd
namespace Go.Proofs.YtlokfalkhgjlbaaDoor
open Go.RowKit

theorem sk_zero {c : Gci} {t : Tms} (h : (skF c t).1 = 0) : (chk c).1 = 0 ∧ (bsF c.ops c.ops.length 0).1 = 0 ∧ (tmF t).1 = 0 := by
  unfold skF at h
  by_cases h1 : (chk c).1 ≠ 0
  · rw [if_pos h1] at h; exact absurd h h1
  rw [if_neg h1] at h
  by_cases h2 : (bsF c.ops c.ops.length 0).1 ≠ 0
  · rw [if_pos h2] at h; exact absurd h h2
  rw [if_neg h2] at h
  exact ⟨by omega, by omega, h⟩
theorem both_sides {c : Gci} {t : Tms} (h : (skF c t).1 = 0) : (pc (lst t) c.ops).2.1 = (sc plR (lstR t) c.ops).1 ∧ (pc (lst t) c.ops).2.2 = (sc plR (lstR t) c.ops).2.2 := by
  obtain ⟨h1, h2, h3⟩ := sk_zero h
  obtain ⟨_, _, q2, q3, q4, _, hcode⟩ := chk_zero h1
  have hw := bs_wr h2
  obtain ⟨e, _⟩ := sc_R (lst t) (lstR t) c.ops (fun o ho => (fit_of_code q2 q3 q4 (hcode o ho)).2.1) (fun o ho => lstR_eq t (hw o ho))
  obtain ⟨_, e1, e2⟩ := pc_sc (lst t) c.ops (fun o _ => (lst_bd h3 o).1)
  rw [e]
  exact ⟨e1, e2⟩
/-- What the loop over times holds. -/
def TmK (G : Int × Int) (t : Tms) (i : Nat) (x y : Int) : Prop := (x ≠ 0 ∧ (x, y) = G) ∨ (x = 0 ∧ y = 0 ∧ G = tmR t i)
theorem tmK_end {G : Int × Int} {t : Tms} {i : Nat} {x y : Int} (h : TmK G t i x y) (hi : i ≤ 4) (hn : ¬ (i < 4 ∧ x = 0)) : (x, y) = G := by
  rcases h with ⟨_, e⟩ | ⟨e1, e2, e3⟩
  · exact e
  · have : i = 4 := by omega
    subst this
    rw [e3, e1, e2]
    rfl

set_option maxRecDepth 100000 in
set_option maxHeartbeats 16000000 in
theorem times_any (c : Gci) (ao : Option Addr) (n cp : Nat) (t : Tms) (w : World) (h : OpsAt w ao n c.ops) (hn : n ≤ cp) (hcp : cp ≤ 9223372036854775807) (hbn : n * 80 ≤ 140737488355328) (hbl : ∀ g ∈ c.ops, g.ctl.length * 8 ≤ 140737488355328 ∧ g.cnd.length * 8 ≤ 140737488355328) (hS : Shp w) (hT : BruM w) :
    Calls Tryd.prog 6 #[.agg #[.int .i64 c.qubits, .int .i64 c.bits, .slice ao n cp], .agg #[.int .i64 t.a, .int .i64 t.b, .int .i64 t.c, .int .i64 t.d]] w fun e w' => e = .returned (.bool true) ∧ Ext w w' := by
  obtain ⟨H, hH⟩ : ∃ H, w.heap.size = H := ⟨_, rfl⟩
  obtain ⟨qb, bi, ops⟩ := c
  simp only at h hbl ⊢
  obtain ⟨W0, hW0⟩ : ∃ W0, (w.alloc (.cells #[.int .i64 qb, .int .i64 bi, .slice ao n cp] 34)).alloc (.cells #[.int .i64 t.a, .int .i64 t.b, .int .i64 t.c, .int .i64 t.d] 65) = W0 := ⟨_, rfl⟩
  have E0 : Ext w W0 := by rw [← hW0]; exact (ext_al w _).trans (ext_al _ _)
  have bC : CiB W0 H qb bi ao n cp := by rw [← hW0, ← hH]; exact CiB.ext ⟨heap_alloc_new w _⟩ (ext_al _ _)
  have bD : TmB W0 (H + 1) t := ⟨by
    have := heap_alloc_new (w.alloc (.cells #[.int .i64 qb, .int .i64 bi, .slice ao n cp] 34)) (.cells #[.int .i64 t.a, .int .i64 t.b, .int .i64 t.c, .int .i64 t.d] 65)
    rw [← hW0, ← hH]
    simpa using this⟩
  have hn0 : ops.length = n := h.1
  have HCp := Lib.hid (CopyCircuit_N ⟨qb, bi, ops⟩ ao n cp W0 (h.ext E0) hbn hbl)
  have HE0 := Lib.hid E0; have HC := Lib.hid bC; have HD := Lib.hid bD; have HW0 := Lib.hid hW0; have HH := Lib.hid hH; have Hh := Lib.hid (h.ext E0); have HS := Lib.hid (hS.ext E0); have HT := Lib.hid (bruM_ext hT E0); have Hn := Lib.hid (And.intro hn hcp); have Hn0 := Lib.hid hn0
  have v0 := bC.x0; have v1 := bC.x1; have v2 := bC.x2
  clear h hn hcp hbn hbl hS hT E0 bC bD hW0 hH hn0
  go_enter Tryd.func6, Tryd.ntmps6
  go_upto_region 1 with fail
  rw [HW0.out, HH.out]
  go_wp2_with fail
  refine HCp.out.mono ?_
  rintro e w1 ⟨⟨a1, c1, rfl, hO1⟩, hx1⟩
  obtain ⟨_, ho2, ho3, ho4⟩ := hO1.at
  obtain ⟨K1, hK1⟩ : ∃ K, w1.heap.size = K := ⟨_, rfl⟩
  obtain ⟨U1, hU1⟩ : ∃ U, w1.alloc (.cells #[.int .i64 qb, .int .i64 bi, .slice a1 n c1] 34) = U := ⟨_, rfl⟩
  have EU1 : Ext w1 U1 := by rw [← hU1]; exact ext_al _ _
  have bU1 : CiB U1 K1 qb bi a1 n c1 := by rw [← hU1, ← hK1]; exact ⟨heap_alloc_new w1 _⟩
  have EX1 := hx1.trans EU1
  have HX1 := Lib.hid EX1; have HO1 := Lib.hid (ho4.ext EU1); have HbU1 := Lib.hid bU1; have HU1 := Lib.hid hU1; have HK1 := Lib.hid hK1; have Hc1 := Lib.hid (And.intro ho2 ho3)
  have HSc := Lib.hid (Schedule_any ⟨qb, bi, ops⟩ t a1 n c1 U1 (ho4.ext EU1) ho2 ho3 (HS.out.ext EX1))
  have t0 := bU1.x0; have t1 := bU1.x1; have t2 := bU1.x2
  have bt := HD.out.ext EX1
  have s0 := bt.x0; have s1 := bt.x1; have s2 := bt.x2; have s3 := bt.x3
  clear hO1 ho2 ho3 ho4 hx1 EU1 bU1 EX1 hU1 hK1 v0 v1 v2 HCp HW0 HH bt
  go_upto_region 2 with fail
  rw [HU1.out, HK1.out]
  go_wp2_with fail
  refine HSc.out.mono ?_
  rintro e w2 ⟨sa, sm, sc', l, last, rfl, hl1, hl2, hl3, hx2, hbad, hgood⟩
  obtain ⟨F, hF⟩ : ∃ F, skF ⟨qb, bi, ops⟩ t = F := ⟨_, rfl⟩
  obtain ⟨F0, F1⟩ := F
  rw [hF] at hbad hgood ⊢
  simp only at hbad hgood
  obtain ⟨K2, hK2⟩ : ∃ K, w2.heap.size = K := ⟨_, rfl⟩
  obtain ⟨U2, hU2⟩ : ∃ U, w2.alloc (.cells #[.int .i64 F0, .int .i64 F1] 27) = U := ⟨_, rfl⟩
  have EU2 : Ext w2 U2 := by rw [← hU2]; exact ext_al _ _
  have bU2 : FtB U2 K2 F0 F1 := by rw [← hU2, ← hK2]; exact ⟨heap_alloc_new w2 _⟩
  have EX2 := hx2.trans EU2
  have E02 := HX1.out.trans EX2
  have HX2 := Lib.hid EX2; have HE02 := Lib.hid E02; have HbU2 := Lib.hid bU2; have HU2 := Lib.hid hU2; have HK2 := Lib.hid hK2; have HF := Lib.hid hF; have Hbad := Lib.hid hbad; have Hgood := Lib.hid hgood; have HI := Lib.hid (hl3.ext EU2); have Hl := Lib.hid (And.intro hl1 hl2)
  have HRC := Lib.hid (RCheck_any ⟨qb, bi, ops⟩ ao n cp U2 (Hh.out.ext E02) Hn.out.1 Hn.out.2)
  obtain ⟨f, hf⟩ : ∃ f, chk ⟨qb, bi, ops⟩ = f := ⟨_, rfl⟩
  obtain ⟨f0, f1⟩ := f
  rw [hf] at HRC
  have Hf := Lib.hid hf
  have bc := HC.out.ext E02
  have v0 := bc.x0; have v1 := bc.x1; have v2 := bc.x2
  clear t0 t1 t2 s0 s1 s2 s3 hl1 hl2 hl3 hx2 hbad hgood hF hK2 hU2 EU2 bU2 EX2 E02 HSc HU1 HK1 bc hf
  go_upto_region 3 with fail
  rw [HU2.out, HK2.out]
  go_wp2_with fail
  refine HRC.out.mono ?_
  rintro e w3 ⟨rfl, hx3⟩
  obtain ⟨K3, hK3⟩ : ∃ K, w3.heap.size = K := ⟨_, rfl⟩
  obtain ⟨U3, hU3⟩ : ∃ U, w3.alloc (.cells #[.int .i64 f0, .int .i64 f1] 27) = U := ⟨_, rfl⟩
  have EU3 : Ext w3 U3 := by rw [← hU3]; exact ext_al _ _
  have bU3 : FtB U3 K3 f0 f1 := by rw [← hU3, ← hK3]; exact ⟨heap_alloc_new w3 _⟩
  have EX3 := hx3.trans EU3
  have HX3 := Lib.hid EX3; have HbU3 := Lib.hid bU3; have HU3 := Lib.hid hU3; have HK3 := Lib.hid hK3
  have HKs := Lib.hid (show U2.heap.size ≤ K3 by rw [← hK3]; exact hx3.size)
  have q0 := bU3.x0
  clear v0 v1 v2 hx3 EU3 bU3 EX3 hU3 hK3 HRC HU2 HK2
  obtain ⟨B, hB⟩ : ∃ B, (if f0 = 0 then bsF ops n 0 else (f0, f1)) = B := ⟨_, rfl⟩
  obtain ⟨b0, b1⟩ := B
  have hG : (F0, F1) = if b0 ≠ 0 then (b0, b1) else tmF t := by
    rw [← HF.out]
    unfold skF
    rw [Hf.out]
    simp only
    rw [Hn0.out]
    by_cases h0 : f0 = 0
    · rw [if_pos h0] at hB
      rw [if_neg (by omega), hB]
    · rw [if_neg h0] at hB
      rw [if_pos h0]
      cases hB
      rw [if_pos h0]
  have hb1 : b0 = 0 → b1 = 0 := fun e => by
    by_cases h0 : f0 = 0
    · rw [if_pos h0] at hB
      have := (bsF_zero ops n 0 (by rw [hB]; exact e)).1
      rw [hB] at this
      exact congrArg Prod.snd this
    · rw [if_neg h0] at hB
      cases hB
      exact absurd e h0
  have HB := Lib.hid hB; have HG := Lib.hid hG; have Hb1 := Lib.hid hb1
  clear hB hG hb1
  go_upto_if 27 with fail
  rw [HU3.out, HK3.out]
  clear HU3 HK3
  go_cut [9] from 25 to 29 (fun s9 wx => s9 = .pointer (some ⟨K3, 0, none⟩) ∧ FtB wx K3 b0 b1 ∧ Ext U2 wx)
  case first =>
    by_cases hz : f0 = 0
    · have hcb := bt' hz
      have hz4 : n ≤ 4096 := by
        have hc : (chk ⟨qb, bi, ops⟩).1 = 0 := by rw [Hf.out]; exact hz
        have := (chk_zero hc).2.2.2.2.2.1
        rw [← Hn0.out]; exact this
      have E03 := HE02.out.trans HX3.out
      have HNB := Lib.hid (NotBasic_any ⟨qb, bi, ops⟩ ao n cp U3 (Hh.out.ext E03) hz4)
      have hB := HB.out
      rw [if_pos hz] at hB
      simp only at HNB
      rw [hB] at HNB
      have bc := HC.out.ext E03
      have v0 := bc.x0; have v1 := bc.x1; have v2 := bc.x2
      clear hz hz4 E03 hB bc
      go_wp2_with fail
      refine HNB.out.mono ?_
      rintro e w4 ⟨rfl, hx4⟩
      have bz := HbU3.out.ext hx4
      have x0 := bz.x0; have x1 := bz.x1; have g0 := bz.f 0; have g1 := bz.f 1
      have Hbz := Lib.hid bz; have HX4 := Lib.hid (HX3.out.trans hx4)
      clear hx4 bz v0 v1 v2
      go_wp2_with fail
      go_meet
      exact ⟨rfl, Hbz.out.putV b0 b1, put2x HX4.out HKs.out _ _⟩
    · have hcb := bf hz
      have hB := HB.out
      rw [if_neg hz] at hB
      have HBB := Lib.hid hB
      clear hz hB
      go_wp2_with fail
      go_meet
      exact ⟨rfl, by cases HBB.out; exact HbU3.out, HX3.out⟩
  case rest =>
  obtain ⟨rfl, hb, hEc⟩ := hcut
  have Hb := Lib.hid hb; have HEc := Lib.hid hEc
  have bt := HD.out.ext (HE02.out.trans hEc)
  have s0 := bt.x0; have s1 := bt.x1; have s2 := bt.x2; have s3 := bt.x3
  obtain ⟨TL, hTL⟩ : ∃ x, wc.heap.size = x := ⟨_, rfl⟩
  obtain ⟨U5, hU5⟩ : ∃ U, wc.alloc (.cells #[.int .i64 t.a, .int .i64 t.b, .int .i64 t.c, .int .i64 t.d] 3) = U := ⟨_, rfl⟩
  have EU5 : Ext wc U5 := by rw [← hU5]; exact ext_al _ _
  have hcl : ∀ j, j < 4 → U5.cell? ⟨TL, j, none⟩ = some (.int .i64 (tmA t j)) := fun j hj => by
    have h1 := heap_alloc_new wc (.cells #[.int .i64 t.a, .int .i64 t.b, .int .i64 t.c, .int .i64 t.d] 3)
    rw [hU5, hTL] at h1
    rw [cell_of_row _ _ j _ _ (0, 0) h1]
    match j, hj with
    | 0, _ => rfl
    | 1, _ => rfl
    | 2, _ => rfl
    | 3, _ => rfl
  have HTK := Lib.hid (show TL ≠ K3 by have := hb.lt; omega)
  have Hcl := Lib.hid hcl; have HU5 := Lib.hid hU5; have HTL := Lib.hid hTL; have Hb5 := Lib.hid (hb.ext EU5); have HE5 := Lib.hid (hEc.trans EU5)
  clear hb hEc bt hcl hU5 hTL EU5 q0 HbU3
  go_upto_region 7 with fail
  rw [HU5.out, HTL.out]
  clear HU5 HTL s0 s1 s2 s3
  go_wp2_with fail
  go_loopg [11] 4 (fun kk s11 wx => ∃ (i : Nat) (x y : Int), s11 = .int .i64 (i : Int) ∧ i ≤ 4 ∧ 4 - i = kk ∧ FtB wx K3 x y ∧ Ext U2 wx ∧ (∀ j, j < 4 → wx.cell? ⟨TL, j, none⟩ = some (.int .i64 (tmA t j))) ∧ TmK (F0, F1) t i x y)
  case atStart =>
    refine ⟨0, b0, b1, rfl, Nat.zero_le _, rfl, Hb5.out, HE5.out, Hcl.out, ?_⟩
    by_cases hz : b0 = 0
    · refine Or.inr ⟨hz, Hb1.out hz, ?_⟩
      rw [HG.out, if_neg (by omega)]
      rfl
    · refine Or.inl ⟨hz, ?_⟩
      rw [HG.out, if_pos hz]
  case round =>
    clear Hb5 HE5 Hcl Hb HEc HX3 HB HG Hb1
    obtain ⟨i, x, y, rfl, hi, hk, hb, hE, hcl, hK⟩ := hrel
    have Hb := Lib.hid hb; have HE := Lib.hid hE; have Hcl := Lib.hid hcl; have HK := Lib.hid hK; have Hk := Lib.hid hk; have Hi := Lib.hid hi
    have x0 := hb.x0
    clear hb hE hcl hK hk
    obtain ⟨Bv, hBv⟩ : ∃ Bv, decide (i < 4 ∧ x = 0) = Bv := ⟨_, rfl⟩
    have HBv := Lib.hid hBv
    clear hBv
    go_upto_region 8 with fail
    go_cut [45] from 39 to 45 (fun s45 wx => s45 = .bool Bv ∧ wr = wx)
    case first =>
      by_cases h1 : i < 4
      · have q1 : (i : Int) < 4 := by omega
        by_cases h2 : x = 0
        · have hcb := bt' h2
          have HFz := Lib.hid (show true = Bv by rw [← HBv.out]; exact (dt ⟨h1, h2⟩).symm)
          clear h1 h2
          go_wp2_with fail
          go_meet
          exact ⟨congrArg Value.bool HFz.out, rfl⟩
        · have hcb := bf h2
          have HFz := Lib.hid (show false = Bv by rw [← HBv.out]; exact (df (fun q => h2 q.2)).symm)
          clear h1 h2
          go_wp2_with fail
          go_meet
          exact ⟨congrArg Value.bool HFz.out, rfl⟩
      · have q1 : ¬ (i : Int) < 4 := by omega
        have HFz := Lib.hid (show false = Bv by rw [← HBv.out]; exact (df (fun q => h1 q.1)).symm)
        clear h1
        go_wp2_with fail
        go_meet
        exact ⟨congrArg Value.bool HFz.out, rfl⟩
    case rest =>
    obtain ⟨rfl, rfl⟩ := hcut
    by_cases hB : i < 4 ∧ x = 0
    · have dB : Bv = true := by rw [← HBv.out]; exact dt hB
      subst dB
      obtain ⟨h1, h2⟩ := hB
      have hG : (F0, F1) = tmR t i := by
        rcases HK.out with ⟨e, _⟩ | ⟨_, _, e⟩
        · exact absurd h2 e
        · exact e
      rw [tmR_step t i h1] at hG
      have hci := Hcl.out i h1
      obtain ⟨a, ha⟩ : ∃ a, tmA t i = a := ⟨_, rfl⟩
      rw [ha] at hci hG
      have q0 : (0 : Int) ≤ (i : Int) := by omega
      have q1 : (i : Int) < 4 := by omega
      have wk : IntKind.i64.wrap ((i : Int) + 1) = ((i + 1 : Nat) : Int) := by rw [IntKind.wrap_i64]; omega
      have H1 := Lib.hid h1; have H2 := Lib.hid h2
      have x1 := Hb.out.x1; have g0 := Hb.out.f 0; have g1 := Hb.out.f 1
      by_cases r1 : a < 0
      · have d1 := dt r1
        rw [if_pos (show tmB a from Or.inl r1)] at hG
        have HGG := Lib.hid hG
        clear hG r1 h1 h2 ha
        go_wp2_with fail
        go_roundg (4 - (i + 1))
        case measure => have := Hk.out; have := H1.out; omega
        case rel => exact ⟨i + 1, 29, (i : Int), rfl, H1.out, rfl, Hb.out.putV 29 (i : Int), put2x HE.out HKs.out _ _, fun j hj => by
          rw [World.cell?_setCell_other _ _ _ _ (fun q => HTK.out (congrArg Addr.block q).symm), World.cell?_setCell_other _ _ _ _ (fun q => HTK.out (congrArg Addr.block q).symm)]
          exact Hcl.out j hj, Or.inl ⟨by decide, HGG.out.symm⟩⟩
      have d1 := df r1
      by_cases r2 : 1000000 < a
      · have d2 := dt r2
        rw [if_pos (show tmB a from Or.inr r2)] at hG
        have HGG := Lib.hid hG
        clear hG r1 r2 h1 h2 ha
        go_wp2_with fail
        go_roundg (4 - (i + 1))
        case measure => have := Hk.out; have := H1.out; omega
        case rel => exact ⟨i + 1, 29, (i : Int), rfl, H1.out, rfl, Hb.out.putV 29 (i : Int), put2x HE.out HKs.out _ _, fun j hj => by
          rw [World.cell?_setCell_other _ _ _ _ (fun q => HTK.out (congrArg Addr.block q).symm), World.cell?_setCell_other _ _ _ _ (fun q => HTK.out (congrArg Addr.block q).symm)]
          exact Hcl.out j hj, Or.inl ⟨by decide, HGG.out.symm⟩⟩
      have d2 := df r2
      rw [if_neg (show ¬ tmB a from fun q => q.elim r1 r2)] at hG
      have HGG := Lib.hid hG
      clear hG r1 r2 h1 h2 ha
      go_wp2_with fail
      go_roundg (4 - (i + 1))
      case measure => have := Hk.out; have := H1.out; omega
      case rel => exact ⟨i + 1, x, y, rfl, H1.out, rfl, Hb.out, HE.out, Hcl.out, Or.inr ⟨H2.out, by
        rcases HK.out with ⟨e, _⟩ | ⟨_, e, _⟩
        · exact absurd H2.out e
        · exact e, HGG.out⟩⟩
    · have dB : Bv = false := by rw [← HBv.out]; exact df hB
      subst dB
      have hxy := tmK_end HK.out hi hB
      have e0 : F0 = x := (congrArg Prod.fst hxy).symm
      have e1 : F1 = y := (congrArg Prod.snd hxy).symm
      subst e0; subst e1
      clear hxy hB HK hi x0 HBv
      have HE4 := Lib.hid (HE02.out.trans HE.out)
      have HBg := Lib.hid (routeBegun_any wr (HS.out.ext HE4.out) (bruM_ext HT.out HE4.out))
      have bFr := HbU2.out.ext HE.out; have bFg := Hb.out
      have p0 := bFr.x0; have p1 := bFr.x1; have p2 := bFg.x0; have p3 := bFg.x1
      clear bFr bFg
      go_wp2_with fail
      refine HBg.out.mono ?_
      rintro e w5 ⟨rfl, hx5⟩
      have E05 := HE4.out.trans hx5
      have EX5 := HE.out.trans hx5
      have p0 := cell_ext p0 hx5; have p1 := cell_ext p1 hx5; have p2 := cell_ext p2 hx5; have p3 := cell_ext p3 hx5
      have bGiv := (HbU1.out.ext HX2.out).ext EX5; have bCo := HC.out.ext E05
      have g0 := bGiv.x0; have g1 := bGiv.x1; have g2 := bGiv.x2; have k0 := bCo.x0; have k1 := bCo.x1; have k2 := bCo.x2
      have HSm := Lib.hid (sameCircuit_any ⟨qb, bi, ops⟩ a1 n c1 ao cp w5 ((HO1.out.ext HX2.out).ext EX5) (Hh.out.ext E05) Hc1.out.1 Hc1.out.2 Hn.out.1 Hn.out.2)
      have HE05 := Lib.hid E05; have HX5 := Lib.hid EX5; have HX45 := Lib.hid hx5
      clear hx5 bGiv bCo E05 EX5 HBg
      go_wp2_with fail
      refine HSm.out.mono ?_
      rintro e w6 ⟨rfl, hx6⟩
      have E06 := HE05.out.trans hx6; have EX6 := HX5.out.trans hx6
      have HE06 := Lib.hid E06; have HX6 := Lib.hid EX6
      have z0 := (Hb.out.ext (HX45.out.trans hx6)).x0
      clear hx6 E06 EX6 HSm p0 p1 p2 p3 g0 g1 g2 k0 k1 k2
      by_cases hz : F0 = 0
      rotate_left 1
      · have hcb := nt hz
        obtain ⟨rfl, rfl⟩ := Hbad.out hz
        have hsm : sm = 0 := by have := HI.out.1; simpa using this.symm
        subst hsm
        have HEf := Lib.hid (HE0.out.trans HE06.out)
        clear hz
        go_wp2_with fail
        go_ret
        exact ⟨rfl, HEf.out⟩
      have hcb := nf' hz
      obtain ⟨rfl, rfl⟩ := Hgood.out hz
      have hsk : (skF ⟨qb, bi, ops⟩ t).1 = 0 := by rw [HF.out]; exact hz
      obtain ⟨h1, _, h3⟩ := sk_zero hsk
      obtain ⟨_, _, q2, q3, q4, q5, hcode⟩ := chk_zero h1
      obtain ⟨eq1, eq2⟩ := both_sides hsk
      simp only at q2 q3 q4 q5 hcode eq1 eq2
      have hsm : sm = n := by have := HI.out.1; rw [pc_len, Hn0.out] at this; exact this.symm
      subst hsm
      have HSt := Lib.hid (Starts_any ⟨qb, bi, ops⟩ t ao sm cp w6 (Hh.out.ext HE06.out) (by rw [← Hn0.out]; exact q5) (fun g hg => (fit_of_code q2 q3 q4 (hcode g hg)).1) (fun o => lstR_bd h3 o))
      simp only at HSt
      have HI6 := Lib.hid (HI.out.ext HX6.out)
      rw [← eq1, ← eq2] at HSt
      obtain ⟨L, hL⟩ : ∃ L, (pc (lst t) ops).2.1 = L := ⟨_, rfl⟩
      obtain ⟨Ls, hLs⟩ : ∃ L, (pc (lst t) ops).2.2 = L := ⟨_, rfl⟩
      rw [hL, hLs] at HSt
      rw [hL] at HI6
      rw [hLs]
      have bc := HC.out.ext HE06.out; have bt := HD.out.ext HE06.out
      have v0 := bc.x0; have v1 := bc.x1; have v2 := bc.x2; have s0 := bt.x0; have s1 := bt.x1; have s2 := bt.x2; have s3 := bt.x3
      have HEf := Lib.hid (HE0.out.trans HE06.out)
      clear hz hsk h1 h3 q2 q3 q4 q5 hcode eq1 eq2 hL hLs bc bt HI Hbad Hgood
      go_wp2_with fail
      refine HSt.out.mono ?_
      rintro e w7 ⟨⟨v', rfl, hown⟩, hx7⟩
      obtain ⟨a7, c7, rfl, r1, r2, r3, _⟩ := ints_of_own hown
      have HSI := Lib.hid (sameInts_any L sa sm sc' a7 c7 w7 (HI6.out.ext hx7) r3 Hl.out.1 (Nat.le_trans Hl.out.2 (by decide)))
      have HEg := Lib.hid (HEf.out.trans hx7)
      clear hx7 hown r1 r2 r3 v0 v1 v2 s0 s1 s2 s3 z0
      go_wp2_with fail
      refine HSI.out.mono ?_
      rintro e w8 ⟨rfl, hx8⟩
      have HEh := Lib.hid (HEg.out.trans hx8)
      clear hx8
      go_wp2_with fail
      go_ret
      exact ⟨rfl, HEh.out⟩

theorem times_walk (c : Gci) (ao : Option Addr) (n cp : Nat) (x y z u : Int) (w : World) (h : OpsAt w ao n c.ops) (hn : n ≤ cp) (hcp : cp ≤ 9223372036854775807) (hbn : n * 80 ≤ 140737488355328) (hbl : ∀ g ∈ c.ops, g.ctl.length * 8 ≤ 140737488355328 ∧ g.cnd.length * 8 ≤ 140737488355328) (hS : Shp w) (hT : BruM w) :
    Calls Tryd.prog 6 #[.agg #[.int .i64 c.qubits, .int .i64 c.bits, .slice ao n cp], .agg #[.int .i64 x, .int .i64 y, .int .i64 z, .int .i64 u]] w fun e w' => e = .returned (.bool true) ∧ Ext w w' :=
  times_any c ao n cp ⟨x, y, z, u⟩ w h hn hcp hbn hbl hS hT
end Go.Proofs.YtlokfalkhgjlbaaDoor
namespace Go.Proofs.YtlokfalkhgjlbaaDoor
open Go.RowKit Go.ChangeShapes Go.WideShapes

set_option maxRecDepth 100000 in
theorem shape_row {H : Type} {enc : TypeId × Value → H} {W : World} {base : Nat} {sp : Nat → Bool} {held : Bool} {fuel : Nat} {cs : List Value} {s : List UInt8} {a b c d : Bool} {p : List MemPlace}
    (h : DataW.trod enc Tryd.prog W base sp held fuel 118 cs = some (.agg [.lit (.string s), .lit (.bool a), .lit (.bool b), .lit (.bool c), .lit (.bool d)], p)) :
    cs = [.string ⟨s.toArray⟩, .bool a, .bool b, .bool c, .bool d] := by
  obtain ⟨xs, n, _, hx, hl, hlen, hf⟩ := DataW.trod_struct Tryd.underlying118 h
  have hc : Tryd.prog.cellsOf 118 = 5 := by kernel_rfl
  rw [hc] at hl
  match xs, hlen, cs, hl with
  | [y0, y1, y2, y3, y4], _, [v0, v1, v2, v3, v4], _ =>
    have g0 := hf 0 _ rfl
    have g1 := hf 1 _ rfl
    have g2 := hf 2 _ rfl
    have g3 := hf 3 _ rfl
    have g4 := hf 4 _ rfl
    simp only [List.getElem?_cons_zero, List.getElem?_cons_succ] at g0 g1 g2 g3 g4
    obtain ⟨s0, e0, z0, _⟩ := DataW.trod_string Tryd.underlying9 g0
    obtain ⟨b1, e1, z1⟩ := DataW.trod_bool Tryd.underlying4 g1
    obtain ⟨b2, e2, z2⟩ := DataW.trod_bool Tryd.underlying4 g2
    obtain ⟨b3, e3, z3⟩ := DataW.trod_bool Tryd.underlying4 g3
    obtain ⟨b4, e4, z4⟩ := DataW.trod_bool Tryd.underlying4 g4
    subst z0; subst z1; subst z2; subst z3; subst z4
    injection hx with hd _
    simp only [List.map_cons, List.map_nil, DataW.agg.injEq, List.cons.injEq, DataW.lit.injEq, Lit.string.injEq, Lit.bool.injEq, and_true] at hd
    obtain ⟨rfl, rfl, rfl, rfl, rfl⟩ := hd
    injection e0 with e0; injection e1 with e1; injection e2 with e2; injection e3 with e3; injection e4 with e4
    rw [e0, e1, e2, e3, e4]

set_option maxRecDepth 100000 in
theorem shp_of_laid {W : World} (h : laidMet Tryd.prog [("qloom/circ.shapes", Rows.laid_qloom_circ_shapes)] W) : Shp W := by
  obtain ⟨ps, ⟨g', t', cs, fuel, p, q, hg', ht', hvar, hd, _, _⟩, _⟩ := h
  obtain rfl := Option.some.inj ((show Tryd.prog.globalNamed "qloom/circ.shapes" = some 0 by kernel_rfl).symm.trans hg')
  obtain rfl := Option.some.inj ((show (Tryd.prog.globals[0]?).map (·.type) = some 119 by kernel_rfl).symm.trans ht')
  obtain ⟨xs, m, _, hx, hl, hlen, hf⟩ := DataW.trod_array Tryd.underlying119 hd
  have hc : Tryd.prog.cellsOf 118 = 5 := by kernel_rfl
  rw [hc] at hf
  match xs, hlen with
  | [y0, y1, y2, y3, y4, y5, y6], _ =>
    injection hx with hx _
    unfold Rows.laid_qloom_circ_shapes at hx
    simp only [List.map_cons, List.map_nil, DataW.agg.injEq, List.cons.injEq, and_true] at hx
    obtain ⟨_, x1, x2, x3, x4, x5, x6⟩ := hx
    have key : ∀ (k : Nat) (y : DataW Unit × List MemPlace) (s : List UInt8) (a b c d : Bool), k < 7 → [y0, y1, y2, y3, y4, y5, y6][k]? = some y → .agg [.lit (.string s), .lit (.bool a), .lit (.bool b), .lit (.bool c), .lit (.bool d)] = y.1 →
        W.cell? ⟨0, k * 5, none⟩ = some (.string ⟨s.toArray⟩) ∧ W.cell? ⟨0, k * 5 + 1, none⟩ = some (.bool a) ∧ W.cell? ⟨0, k * 5 + 2, none⟩ = some (.bool b) ∧ W.cell? ⟨0, k * 5 + 3, none⟩ = some (.bool c) ∧ W.cell? ⟨0, k * 5 + 4, none⟩ = some (.bool d) := by
      intro k y s a b c d hk hy he
      have h1 := hf k hk
      rw [hy] at h1
      obtain ⟨yd, yp⟩ := y
      simp only at he
      subst he
      have h2 := shape_row h1
      have h3 : ∀ j, j < 5 → W.cell? ⟨0, k * 5 + j, none⟩ = ([.string ⟨s.toArray⟩, .bool a, .bool b, .bool c, .bool d] : List Value)[j]? := by
        intro j hj
        rw [World.var?_cell hg' hvar, ← h2, List.getElem?_take, if_pos hj, List.getElem?_drop, Array.getElem?_toList]
      exact ⟨h3 0 (by omega), h3 1 (by omega), h3 2 (by omega), h3 3 (by omega), h3 4 (by omega)⟩
    intro k h1 h6
    have hk : k = 1 ∨ k = 2 ∨ k = 3 ∨ k = 4 ∨ k = 5 ∨ k = 6 := by omega
    rcases hk with rfl | rfl | rfl | rfl | rfl | rfl
    · exact key 1 y1 _ _ _ _ _ (by omega) rfl x1
    · exact key 2 y2 _ _ _ _ _ (by omega) rfl x2
    · exact key 3 y3 _ _ _ _ _ (by omega) rfl x3
    · exact key 4 y4 _ _ _ _ _ (by omega) rfl x4
    · exact key 5 y5 _ _ _ _ _ (by omega) rfl x5
    · exact key 6 y6 _ _ _ _ _ (by omega) rfl x6

/-- What lay there is as it was: what is asked behind the call. -/
theorem post_kept {H : Type} {enc : TypeId × Value → H} {P : Program} {f : Func} {s : ChangeSpec} {apart fresh handsOn again : Bool} {W W' : World} {args : Array Value} {v : Value} {ds gs : List (DataW H)} {ps : List MemPlace}
    (hW : DataW.Whole enc P f.params.toList s.vars apart W args.toList ds gs ps)
    (hres : ∀ (b : Nat) (sp : Nat → Bool) (hd : Bool), DataW.TrodAll enc P W' b sp hd f.resultTypes.toList (v.resultList f.resultTypes.size) (s.fn H (ds ++ gs)).results [])
    (hargs : ∀ sp : Nat → Bool, (∀ x ∈ ps, sp x.block = true) → DataW.TrodAll enc P W' 0 sp true f.params.toList args.toList (s.fn H (ds ++ gs)).args ps)
    (hvars : ∀ sp : Nat → Bool, DataW.TrodVars enc P W' sp s.vars (s.fn H (ds ++ gs)).vars [])
    (hb : Ext W W')
    (hok : ∀ (j : Nat) (t : TypeId) (r : Value), f.resultTypes[j]? = some t → (v.resultList f.resultTypes.size)[j]? = some r → Value.okWide P W' .any 0 t r) :
    s.post enc P f apart fresh handsOn again W args v W' := by
  have hlt := hW.lt
  have hold : ∀ x ∈ ps, decide (x.block < W.heap.size) = true := fun x hx => by simpa using hlt x hx
  have hall : ∀ x ∈ ps, (fun _ : Nat => true) x.block = true := fun _ _ => rfl
  have hn : W.noneFrozen ps ∧ (apart = true → ps.Nodup) := by
    obtain ⟨_, _, _, _, rfl, h1, h2⟩ := hW
    exact ⟨h1, h2⟩
  refine ⟨ds, gs, ps, [], ps, [], hW, hres _ _ _, hargs _ hold, hvars _, Below.frame hb _, fun _ => ?_⟩
  refine ⟨hok, _, _, ([] ++ ps) ++ [], ⟨[] ++ ps, [], trodAll_append (hargs (fun _ => true) hall) (hres _ _ _), hvars _, rfl, ?_, ?_⟩, ?_⟩
  · intro b off hp
    have hp' : MemPlace.cell b off ∈ ps := by simpa using hp
    rw [Below.frozen hb (p := ⟨b, off, none⟩) (hlt _ hp')]
    exact hn.1 b off hp'
  · intro ha
    simpa using hn.2 ha
  · intro x hx _
    simpa using hx

end Go.Proofs.YtlokfalkhgjlbaaDoor
