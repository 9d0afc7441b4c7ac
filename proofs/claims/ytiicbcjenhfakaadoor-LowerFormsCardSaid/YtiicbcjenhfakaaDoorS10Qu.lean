/-
  Basic gates: Base. Basic gates: the document's example. The reference's SameInts and SameCircuit, of alike lists and circuits. LowerForms: the walk.
-/
import Derived.Test.YtiicbcjenhfakaaDoorProg
import Derived.Test.YtiicbcjenhfakaaDoorRows
import Derived.BigQuiet
import Derived.Deep.AppendLies
import Derived.Deep.Cut
import Derived.Deep.CutRange
import Derived.Deep.LoopGhost
import Derived.Deep.QuietTactic
import Derived.Deep.RegionHeld3
import Derived.Defers
import Derived.Ground.Names2Prog
import Derived.Ground.SlgnProg
import Derived.Laws.AppendOwnNone
import Derived.Laws.Bits64b
import Derived.Laws.Concat
import Derived.Laws.CopyOwn
import Derived.Laws.IdiomStrings
import Derived.Laws.ResultCell
import Derived.Lib.AppendStr
import Derived.Lib.AppendZeros
import Derived.Lib.AppendZerosOnto
import Derived.Lib.BitFns
import Derived.Lib.Hide
import Derived.Lib.ItoaMem
import Derived.Lib.ItoaNum
import Derived.Lib.Strings
import Derived.Lib.TrailingZeros
import Derived.Maps.AppendAt
import Derived.OrdersIn
import Derived.OwnWalk
import Derived.RangeFuncCalls
import Derived.RangeFuncFrom
import Derived.Recover
import Derived.Shelf.Slices.Clone
import Derived.Shelf.Slices.Turned
import Derived.Shelf.SlicesE.Clone
import Derived.Shelf.Spec.TrailingZeros
import Derived.WalkKit
import Derived.WalkLawsBesides
import Derived.WalkSpells
import Derived.Test.YtiicbcjenhfakaaDoorS00Ck
import Derived.Test.YtiicbcjenhfakaaDoorS01Cp
import Derived.Test.YtiicbcjenhfakaaDoorShelf
import Derived.Test.YtiicbcjenhfakaaDoorS03Qa
import Derived.Test.YtiicbcjenhfakaaDoorS04Qf
import Derived.Test.YtiicbcjenhfakaaDoorS05Kd
import Derived.Test.YtiicbcjenhfakaaDoorS06Qh
import Derived.Test.YtiicbcjenhfakaaDoorS07Qk
import Derived.Test.YtiicbcjenhfakaaDoorS08Qo
import Derived.Test.YtiicbcjenhfakaaDoorS09Qr
namespace Go.Proofs.YtiicbcjenhfakaaDoor
open Go.RowKit

theorem lower_any (w0 w : World) (Bd : Nat) (sp : Int) (v : Value) (ops : List Gop) (g : Gop) (a1 : Option Addr) (n1 c1 : Nat) (a2 : Option Addr) (n2 c2 : Nat) (hB : BdA w0 w Bd sp v ops) (hL : OpL w0 g a1 n1 c1 a2 n2 c2) (B : Int) (f : OpFit g sp B) (hsp : 0 ≤ sp ∧ sp + (wnt g : Nat) ≤ 12) (hbr : BruL w0) (hS : Shp w0) (hl : ops.length ≤ 90000) :
    Apps w0 Bd sp 15 #[.pointer (some ⟨Bd, 0, none⟩), .agg #[.int .i64 g.kind, .int .i64 g.k, .slice a1 n1 c1, .int .i64 g.q, .int .i64 g.bit, .slice a2 n2 c2]] w v ops (lowO sp g) := by
  obtain ⟨kd, k, ctl, q, bt, cnd⟩ := g
  have h1 : ctl.length = n1 := hL.i1.1
  have h2 : cnd.length = n2 := hL.i2.1
  have hc : cnd.length ≤ 24 := by
    have := f.cnd
    unfold cndOk at this
    simp only [Bool.and_eq_true, decide_eq_true_eq] at this
    exact this.1
  have h12 : ctl.length ≤ 12 := by
    by_cases hl0 : 0 < ctl.length
    · have := f.len hl0 (by have := wnt ⟨kd, k, ctl, q, bt, cnd⟩; omega)
      simp only at this; omega
    · omega
  have hbe : isBas ⟨kd, k, ctl, q, bt, cnd⟩ = (n1 == 0 || (n1 == 1 && kd == 2)) := by unfold isBas; simp only; rw [h1]
  unfold lowO
  by_cases hb : isBas ⟨kd, k, ctl, q, bt, cnd⟩ = true
  · rw [if_pos hb]
    exact lower_bas w0 w Bd sp v ops kd k a1 n1 c1 q bt a2 n2 c2 ctl cnd hB hL (by rw [← hbe]; exact hb) (by omega) (by omega) (by omega)
  · rw [if_neg hb]
    exact lower_not w0 w Bd sp v ops kd k a1 n1 c1 q bt a2 n2 c2 ctl cnd hB hL (by rw [← hbe]; simpa using hb) B f hsp (by omega) hbr hS hl
theorem lowA_len {n B : Int} (hn : n ≤ 12) : ∀ (l : List Gop), (∀ g ∈ l, opCode g n B = 0) → ((lowA n l).length : Int) ≤ (l.length : Int) + 220 * cntP hasC l
  | [], _ => by simp [lowA, cntP]
  | g :: r, h => by
    have ih := lowA_len hn r (fun x hx => h x (by simp [hx]))
    have h1 := low_len (h g (by simp)) hn
    have e : lowA n (g :: r) = lowO n g ++ lowA n r := by simp [lowA]
    rw [e, List.length_append, List.length_cons]
    unfold cntP at ih ⊢
    rw [List.filter_cons]
    by_cases hc : 0 < g.ctl.length
    · rw [if_pos hc] at h1
      rw [if_pos (show hasC g = true from decide_eq_true hc), List.length_cons]
      omega
    · rw [if_neg hc] at h1
      rw [if_neg (by rw [show hasC g = false from decide_eq_false hc]; decide)]
      omega
theorem lowA_snoc (n : Int) (l : List Gop) (g : Gop) : lowA n (l ++ [g]) = lowA n l ++ lowO n g := by unfold lowA; rw [List.flatMap_append]; simp
/-- What Base answers. -/
def lowM (c : Gci) : Gci := if (lowF c).1 = 0 then ⟨c.qubits + mwN c.ops, c.bits, lowA c.qubits c.ops⟩ else ⟨0, 0, []⟩

set_option maxRecDepth 100000 in
set_option maxHeartbeats 8000000 in
theorem Base_any (c : Gci) (ao : Option Addr) (n cp : Nat) (w : World) (h : OpsAt w ao n c.ops) (hn : n ≤ cp) (hcp : cp ≤ 9223372036854775807) (hS : Shp w) (hbr : BruL w) :
    Calls Tryd.prog 5 #[.agg #[.int .i64 c.qubits, .int .i64 c.bits, .slice ao n cp]] w fun e w' => (∃ (a : Option Addr) (m c' : Nat), e = .returned (.tuple #[.agg #[.int .i64 (lowM c).qubits, .int .i64 (lowM c).bits, .slice a m c'], .agg #[.int .i64 (lowF c).1, .int .i64 (lowF c).2]]) ∧ OpsAt w' a m (lowM c).ops ∧ m ≤ c' ∧ c' ≤ 9223372036854775807) ∧ Ext w w' := by
  obtain ⟨F, hF⟩ : ∃ F, lowF c = F := ⟨_, rfl⟩
  obtain ⟨F0, F1⟩ := F
  obtain ⟨R, hR⟩ : ∃ R, lowM c = R := ⟨_, rfl⟩
  unfold lowM at hR
  rw [hF] at hR
  rw [hF, show lowM c = R by unfold lowM; rw [hF]; exact hR]
  obtain ⟨qb, bi, ops⟩ := c
  obtain ⟨f, hf⟩ : ∃ f, chk ⟨qb, bi, ops⟩ = f := ⟨_, rfl⟩
  obtain ⟨f0, f1⟩ := f
  have hz : f0 = 0 → (1 ≤ qb ∧ qb ≤ 12) ∧ ops.length ≤ 4096 ∧ (∀ g ∈ ops, opCode g qb bi = 0) := by
    intro h0
    have hc : (chk ⟨qb, bi, ops⟩).1 = 0 := by rw [hf]; exact h0
    obtain ⟨_, h1, h2, h3, h4, h5, h6⟩ := chk_zero hc
    exact ⟨⟨h1, h2⟩, h5, h6⟩
  unfold lowF at hF
  rw [hf] at hF
  simp only at hF hR
  obtain ⟨Rq, Rb, Ro⟩ := R
  have hRz : F0 ≠ 0 → Rq = 0 ∧ Rb = 0 ∧ Ro = [] := fun e => by
    rw [if_neg e] at hR
    injection hR with e1 e2 e3
    exact ⟨e1.symm, e2.symm, e3.symm⟩
  have hRy : F0 = 0 → Rq = qb + mwN ops ∧ Rb = bi ∧ Ro = lowA qb ops := fun e => by
    rw [if_pos e] at hR
    injection hR with e1 e2 e3
    exact ⟨e1.symm, e2.symm, e3.symm⟩
  have Hz := Lib.hid hz; have Hf := Lib.hid hf; have HF := Lib.hid hF; have HRz := Lib.hid hRz; have HRy := Lib.hid hRy
  obtain ⟨H, hH⟩ : ∃ H, w.heap.size = H := ⟨_, rfl⟩
  obtain ⟨W0, hW0⟩ : ∃ W0, ((w.alloc (.cells #[.int .i64 qb, .int .i64 bi, .slice ao n cp] 24)).alloc (.cells #[.int .i64 0, .int .i64 0, .slice none 0 0] 24)).alloc (.cells #[.int .i64 0, .int .i64 0] 27) = W0 := ⟨_, rfl⟩
  have E0 : Ext w W0 := by rw [← hW0]; exact ((ext_al w _).trans (ext_al _ _)).trans (ext_al _ _)
  have bC : CiB W0 H qb bi ao n cp := by rw [← hW0, ← hH]; exact CiB.ext (CiB.ext ⟨heap_alloc_new w _⟩ (ext_al _ _)) (ext_al _ _)
  have bR : CiB W0 (H + 1) 0 0 none 0 0 := by
    have h1 := heap_alloc_new (w.alloc (.cells #[.int .i64 qb, .int .i64 bi, .slice ao n cp] 24)) (.cells #[.int .i64 0, .int .i64 0, .slice none 0 0] 24)
    rw [World.size_alloc] at h1
    rw [← hW0, ← hH]
    exact CiB.ext ⟨h1⟩ (ext_al _ _)
  have bF : FtB W0 (H + 2) 0 0 := ⟨by
    have h1 := heap_alloc_new ((w.alloc (.cells #[.int .i64 qb, .int .i64 bi, .slice ao n cp] 24)).alloc (.cells #[.int .i64 0, .int .i64 0, .slice none 0 0] 24)) (.cells #[.int .i64 0, .int .i64 0] 27)
    rw [World.size_alloc, World.size_alloc] at h1
    rw [← hW0, ← hH]; exact h1⟩
  have m0 := bC.x0; have m1 := bC.x1; have m2 := bC.x2
  have HE0 := Lib.hid E0; have HO := Lib.hid (h.ext E0); have HC := Lib.hid bC; have HRb := Lib.hid bR; have HFt := Lib.hid bF; have HS := Lib.hid (hS.ext E0); have Hbr := Lib.hid (bruL_ext hbr E0)
  have HH := Lib.hid hH; have HW0 := Lib.hid hW0; have HwH := Lib.hid (show w.heap.size ≤ H by omega)
  clear h E0 bC bF bR hF hf hz hS hbr hH hW0 hR hRz hRy
  go_enter Tryd.func5, Tryd.ntmps5
  go_upto_region 1 with fail
  rw [HW0.out, HH.out]
  have HK := Lib.hid (Check_any ⟨qb, bi, ops⟩ ao n cp W0 HO.out hn hcp HS.out)
  rw [Hf.out] at HK
  go_wp2_with fail
  refine HK.out.mono ?_
  rintro e w1 ⟨rfl, hx1⟩
  have Ef := ext_al w1 (.cells #[.int .i64 f0, .int .i64 f1] 27)
  have bf1 : FtB (w1.alloc (.cells #[.int .i64 f0, .int .i64 f1] 27)) w1.heap.size f0 f1 := ⟨heap_alloc_new w1 _⟩
  have q0 := bf1.x0; have q1 := bf1.x1
  have HX1 := Lib.hid (hx1.trans Ef)
  have HEz := Lib.hid (HE0.out.trans HX1.out)
  have HnF := Lib.hid (show H + 2 < w1.heap.size by have := HFt.out.lt; have := hx1.size; omega)
  clear m0 m1 m2 hx1 Ef bf1 HK Hf HW0 HH
  generalize hW1 : w1.alloc (.cells #[.int .i64 f0, .int .i64 f1] 27) = W1 at *
  have HW1 := Lib.hid hW1
  clear hW1
  by_cases hc0 : f0 = 0
  · obtain ⟨⟨hq1, hq2⟩, hlen, hcode⟩ := Hz.out hc0
    have hcb := nf' hc0
    have hF2 := HF.out
    rw [if_neg (fun e => e hc0)] at hF2
    have hnl := HO.out.1
    have bd := cntP_bound hasC ops
    obtain ⟨C, hC⟩ : ∃ C, cntP hasC ops = C := ⟨_, rfl⟩
    have hmw12 := mw12 (fun g hg => wnt12 (opFit_of (hcode g hg)) hq2)
    obtain ⟨mw, hmw⟩ : ∃ mw, mwN ops = mw := ⟨_, rfl⟩
    rw [hC, hmw, hnl] at hF2
    rw [hC, hnl] at bd
    rw [hmw] at hmw12
    rw [hmw] at HRy
    have HWC := Lib.hid (fun wx (hx : Ext W1 wx) => withControls_any ops ao n cp wx (HO.out.ext (HX1.out.trans hx)) (by omega))
    rw [hC] at HWC
    have HMW := Lib.hid (fun wx (hx : Ext W1 wx) => mostWanted_any ops ao n cp wx (HO.out.ext (HX1.out.trans hx)) (by omega) (fun g hg => ⟨(opFit_of (hcode g hg)).k.1, wnt12 (opFit_of (hcode g hg)) hq2⟩))
    rw [hmw] at HMW
    have Hlow := Lib.hid (fun (i : Nat) => lowA_len hq2 (ops.take i) (fun g hg => hcode g (List.mem_of_mem_take hg)))
    have HcT := Lib.hid (show ∀ i, i ≤ n → ((ops.take i).length : Int) + 220 * cntP hasC (ops.take i) ≤ (n : Int) + 220 * C from fun i hi => by
      have e1 : cntP hasC (ops.take i) + cntP hasC (ops.drop i) = C := by
        rw [← hC]
        have h4 := congrArg (cntP hasC) (List.take_append_drop i ops)
        rw [← h4]
        unfold cntP
        rw [List.filter_append, List.length_append]
        omega
      have h2 := (cntP_bound hasC (ops.drop i)).1
      rw [List.length_take]
      omega)
    obtain ⟨C2, hC2⟩ : ∃ C2, 220 * C = C2 := ⟨_, rfl⟩
    have wm : IntKind.i64.wrap (220 * C) = C2 := by rw [IntKind.wrap_i64]; omega
    obtain ⟨S, hSS⟩ : ∃ S, (n : Int) + C2 = S := ⟨_, rfl⟩
    have wa : IntKind.i64.wrap ((n : Int) + C2) = S := by rw [IntKind.wrap_i64]; omega
    rw [hC2, hSS] at hF2
    rw [hC2, hSS] at HcT
    obtain ⟨qm, hqm⟩ : ∃ qm, qb + (mw : Int) = qm := ⟨_, rfl⟩
    have wq : IntKind.i64.wrap (qb + (mw : Int)) = qm := by rw [IntKind.wrap_i64]; omega
    rw [hqm] at hF2 HRy
    have bcW := HC.out.ext HX1.out
    have v2 := bcW.x2; have v0 := bcW.x0; have v1 := bcW.x1
    have HF2 := Lib.hid hF2; have Hcode := Lib.hid hcode; have Hnl := Lib.hid hnl; have Hq := Lib.hid (show 1 ≤ qb ∧ qb ≤ 12 from ⟨hq1, hq2⟩); have Hn4 := Lib.hid (show n ≤ 4096 by omega); have Hqm := Lib.hid hqm; have Hmw := Lib.hid hmw
    have HbcW := Lib.hid bcW
    clear hc0 Hz HF hlen hcode hnl hq1 hq2 hF2 bd hC hmw12 hmw hC2 hSS hqm q1
    go_upto_region 4 with fail
    rw [HW1.out]
    clear q0 HW1
    obtain ⟨X, Fw, hFe, hFs⟩ : ∃ (X : Type) (Fw : X → World), (∀ x, Ext W1 (Fw x)) ∧ (∀ w', Ext W1 w' → ∃ x, w' = Fw x) := ⟨{ w' : World // Ext W1 w' }, Subtype.val, fun x => x.2, fun w' h => ⟨⟨w', h⟩, rfl⟩⟩
    have hXn : Nonempty X := (hFs W1 (Ext.refl W1)).elim fun x _ => ⟨x⟩
    have d0 : ∀ x, (Fw x).cell? ⟨H, 0, none⟩ = some (.int .i64 qb) := fun x => (bcW.ext (hFe x)).x0
    have d2 : ∀ x, (Fw x).cell? ⟨H, 2, none⟩ = some (.slice ao n cp) := fun x => (bcW.ext (hFe x)).x2
    have hUd : Ext W1 W1.drew := Below.drew (Ext.refl W1)
    by_cases hs : 4096 < S
    · have hF3 := HF2.out
      rw [if_pos hs] at hF3
      have HFF := Lib.hid (show F0 = 21 ∧ F1 = 0 from ⟨(congrArg Prod.fst hF3).symm, (congrArg Prod.snd hF3).symm⟩)
      have HRR := Lib.hid (HRz.out (by rw [HFF.out.1]; decide))
      clear hF3 v0 v1 v2 bcW
      refine wp_region_F (by kernel_rfl) (by kernel_rfl) (hFs _ hUd) ?_
      repeat (go_big_quiet_step (exact (HWC.out _ (hFe _)).mono (fun e w' h => ⟨h.1, hFs _ ((hFe _).trans h.2)⟩)))
      refine wpQuiet_nil ?_
      rintro _ ⟨xq, rfl⟩
      have HE2 := Lib.hid (HX1.out.trans (hFe xq)); have HE3 := Lib.hid (HEz.out.trans (hFe xq))
      generalize Fw xq = W2 at *
      clear d0 d2 hFe hFs hXn
      have bR := HRb.out.ext HE2.out; have y0 := bR.x0; have y1 := bR.x1; have y2 := bR.x2; have h0 := bR.f 0; have h1 := bR.f 1; have h2 := bR.f 2
      have bF := HFt.out.ext HE2.out; have z0 := bF.x0; have z1 := bF.x1; have k0 := bF.f 0; have k1 := bF.f 1
      have ne1 : H + 1 ≠ H + 2 := by omega
      have ne2 : H + 2 ≠ H + 1 := by omega
      clear bR bF
      go_wp2_with fail
      exact bodyPost_ret (v := .tuple #[.agg #[.int .i64 0, .int .i64 0, .slice none 0 0], .agg #[.int .i64 21, .int .i64 0]]) (by simp [results, Tryd.results5, go_sem, y0, y1, y2, z0, z1]) rfl ⟨⟨none, 0, 0, by rw [HFF.out.1, HFF.out.2, HRR.out.1, HRR.out.2.1], by rw [HRR.out.2.2]; exact ⟨rfl, Or.inl rfl⟩, Nat.le_refl _, by decide⟩, ext_only (ext_only (HE3.out) ((((Only.refl (H + 1) _).setCell _ _).setCell _ _).setCell _ _) (by have := HwH.out; omega)) (((Only.refl (H + 2) _).setCell _ _).setCell _ _) (by have := HwH.out; omega)⟩
    refine wp_region_F (by kernel_rfl) (by kernel_rfl) (hFs _ hUd) ?_
    repeat (go_big_quiet_step (exact (HWC.out _ (hFe _)).mono (fun e w' h => ⟨h.1, hFs _ ((hFe _).trans h.2)⟩)))
    refine wpQuiet_nil ?_
    rintro _ ⟨xq, rfl⟩
    have HEx := Lib.hid (hFe xq)
    generalize Fw xq = W2 at *
    clear d0 d2 hFe hFs hXn v0 v1 v2 hUd
    replace bcW := HbcW.out.ext HEx.out
    go_upto_region 6 with fail
    clear xq Fw X
    obtain ⟨X, Fw, hFe, hFs⟩ : ∃ (X : Type) (Fw : X → World), (∀ x, Ext W2 (Fw x)) ∧ (∀ w', Ext W2 w' → ∃ x, w' = Fw x) := ⟨{ w' : World // Ext W2 w' }, Subtype.val, fun x => x.2, fun w' h => ⟨⟨w', h⟩, rfl⟩⟩
    have hXn : Nonempty X := (hFs W2 (Ext.refl W2)).elim fun x _ => ⟨x⟩
    have d0 : ∀ x, (Fw x).cell? ⟨H, 0, none⟩ = some (.int .i64 qb) := fun x => (bcW.ext (hFe x)).x0
    have d2 : ∀ x, (Fw x).cell? ⟨H, 2, none⟩ = some (.slice ao n cp) := fun x => (bcW.ext (hFe x)).x2
    have hUd : Ext W2 W2.drew := Below.drew (Ext.refl W2)
    have hF3 := HF2.out
    rw [if_neg hs] at hF3
    by_cases hr : 12 < qm
    · rw [if_pos hr] at hF3
      have HFF := Lib.hid (show F0 = 36 ∧ F1 = 0 from ⟨(congrArg Prod.fst hF3).symm, (congrArg Prod.snd hF3).symm⟩)
      have HRR := Lib.hid (HRz.out (by rw [HFF.out.1]; decide))
      clear hF3 bcW
      refine wp_region_F (by kernel_rfl) (by kernel_rfl) (hFs _ hUd) ?_
      repeat (go_big_quiet_step (exact (HMW.out _ (HEx.out.trans (hFe _))).mono (fun e w' h => ⟨h.1, hFs _ ((hFe _).trans h.2)⟩)))
      refine wpQuiet_nil ?_
      rintro _ ⟨xq, rfl⟩
      have HE2 := Lib.hid (HX1.out.trans (HEx.out.trans (hFe xq))); have HE3 := Lib.hid (HEz.out.trans (HEx.out.trans (hFe xq)))
      generalize Fw xq = W3 at *
      clear d0 d2 hFe hFs hXn
      have bR := HRb.out.ext HE2.out; have y0 := bR.x0; have y1 := bR.x1; have y2 := bR.x2; have h0 := bR.f 0; have h1 := bR.f 1; have h2 := bR.f 2
      have bF := HFt.out.ext HE2.out; have z0 := bF.x0; have z1 := bF.x1; have k0 := bF.f 0; have k1 := bF.f 1
      have ne1 : H + 1 ≠ H + 2 := by omega
      have ne2 : H + 2 ≠ H + 1 := by omega
      clear bR bF
      go_wp2_with fail
      exact bodyPost_ret (v := .tuple #[.agg #[.int .i64 0, .int .i64 0, .slice none 0 0], .agg #[.int .i64 36, .int .i64 0]]) (by simp [results, Tryd.results5, go_sem, y0, y1, y2, z0, z1]) rfl ⟨⟨none, 0, 0, by rw [HFF.out.1, HFF.out.2, HRR.out.1, HRR.out.2.1], by rw [HRR.out.2.2]; exact ⟨rfl, Or.inl rfl⟩, Nat.le_refl _, by decide⟩, ext_only (ext_only (HE3.out) ((((Only.refl (H + 1) _).setCell _ _).setCell _ _).setCell _ _) (by have := HwH.out; omega)) (((Only.refl (H + 2) _).setCell _ _).setCell _ _) (by have := HwH.out; omega)⟩
    rw [if_neg hr] at hF3
    have HFF := Lib.hid (show F0 = 0 ∧ F1 = 0 from ⟨(congrArg Prod.fst hF3).symm, (congrArg Prod.snd hF3).symm⟩)
    have HRR := Lib.hid (HRy.out HFF.out.1)
    have Hs := Lib.hid (show S ≤ 4096 by omega); have Hqr := Lib.hid (show qm ≤ 12 by omega)
    clear hF3 bcW
    refine wp_region_F (by kernel_rfl) (by kernel_rfl) (hFs _ hUd) ?_
    repeat (go_big_quiet_step (exact (HMW.out _ (HEx.out.trans (hFe _))).mono (fun e w' h => ⟨h.1, hFs _ ((hFe _).trans h.2)⟩)))
    refine wpQuiet_nil ?_
    rintro _ ⟨xq, rfl⟩
    have HE2 := Lib.hid (HX1.out.trans (HEx.out.trans (hFe xq))); have HE3 := Lib.hid (HEz.out.trans (HEx.out.trans (hFe xq)))
    generalize Fw xq = W3 at *
    clear d0 d2 hFe hFs hXn hs
    have bC3 := HC.out.ext HE2.out
    have v0 := bC3.x0; have v1 := bC3.x1; have v2 := bC3.x2
    have HC3 := Lib.hid bC3
    have HO3 := Lib.hid (HO.out.ext HE2.out); have HS3 := Lib.hid (HS.out.ext HE2.out); have Hbr3 := Lib.hid (bruL_ext Hbr.out HE2.out)
    have HR3 := Lib.hid (HRb.out.ext HE2.out); have HF3 := Lib.hid (HFt.out.ext HE2.out)
    obtain ⟨Bd, hBd⟩ : ∃ Bd, W3.heap.size = Bd := ⟨_, rfl⟩
    obtain ⟨W4, hW4⟩ : ∃ W4, W3.alloc (.cells #[.int .i64 qb, .slice none 0 0] 43) = W4 := ⟨_, rfl⟩
    have HB4 := Lib.hid (show BdA W3 W4 Bd qb (.slice none 0 0) [] from ⟨by rw [← hW4]; exact ext_al _ _, by omega, by rw [← hW4, ← hBd]; exact heap_alloc_new _ _, OpsO.nil _ _⟩)
    have HBd := Lib.hid hBd; have HW4 := Lib.hid hW4
    clear bC3 hBd hW4 HWC HMW HbcW HEx
    go_upto_region 10 with fail
    rw [HW4.out, HBd.out]
    clear v0 v1 v2
    have bC4 := HC3.out.ext HB4.out.ext
    have v2 := bC4.x2
    clear bC4
    go_wp2_with fail
    go_loopg [8, 43] n (fun kk _ s43 wr => ∃ (i : Nat) (vx : Value), s43 = .int .i64 (i : Int) ∧ i ≤ n ∧ n - i = kk ∧ BdA W3 wr Bd qb vx (lowA qb (ops.take i)))
    case atStart => exact ⟨0, _, rfl, Nat.zero_le _, rfl, HB4.out⟩
    case round =>
      obtain ⟨i, vx, rfl, hi, hkk, hBx⟩ := hrel
      have HBx := Lib.hid hBx; have Hkk := Lib.hid hkk
      by_cases hin : i = n
      · have q1 : ¬ (i : Int) < (n : Int) := by omega
        have hst : ops.take i = ops := List.take_of_length_le (by have := Hnl.out; omega)
        rw [hst] at HBx
        obtain ⟨va, vc, hvc, hcap, hcm, hat⟩ := HBx.out.ops.at
        subst hvc
        obtain ⟨m, hm⟩ : ∃ m, (lowA qb ops).length = m := ⟨_, rfl⟩
        rw [hm] at HBx hcap hat
        have bC5 := HC3.out.ext HBx.out.ext
        clear v2
        have v1 := bC5.x1; have x1 := HBx.out.x1
        have bR := HR3.out.ext HBx.out.ext; have y0 := bR.x0; have y1 := bR.x1; have y2 := bR.x2; have h0 := bR.f 0; have h1 := bR.f 1; have h2 := bR.f 2
        have bF := HF3.out.ext HBx.out.ext; have z0 := bF.x0; have z1 := bF.x1; have k0 := bF.f 0; have k1 := bF.f 1
        have ne1 : H + 1 ≠ H + 2 := by omega
        have ne2 : H + 2 ≠ H + 1 := by omega
        have Hcap := Lib.hid hcap; have Hcm := Lib.hid (show vc ≤ 9223372036854775807 by unfold maxLen at hcm; omega); have Hat := Lib.hid hat
        have onA : Only (H + 1) wr (((wr.setCell ⟨H + 1, 0, none⟩ (.int .i64 qm)).setCell ⟨H + 1, 1, none⟩ (.int .i64 bi)).setCell ⟨H + 1, 2, none⟩ (.slice va m vc)) := (((Only.refl _ _).setCell _ _).setCell _ _).setCell _ _
        have onB : Only (H + 2) (((wr.setCell ⟨H + 1, 0, none⟩ (.int .i64 qm)).setCell ⟨H + 1, 1, none⟩ (.int .i64 bi)).setCell ⟨H + 1, 2, none⟩ (.slice va m vc)) (((((wr.setCell ⟨H + 1, 0, none⟩ (.int .i64 qm)).setCell ⟨H + 1, 1, none⟩ (.int .i64 bi)).setCell ⟨H + 1, 2, none⟩ (.slice va m vc)).setCell ⟨H + 2, 0, none⟩ (.int .i64 0)).setCell ⟨H + 2, 1, none⟩ (.int .i64 0)) := ((Only.refl _ _).setCell _ _).setCell _ _
        have lR := bR.lt; have lF := bF.lt
        have hlt3 := HR3.out.lt; have hlt4 := HF3.out.lt
        have HOe := Lib.hid (show OpsAt (((((wr.setCell ⟨H + 1, 0, none⟩ (.int .i64 qm)).setCell ⟨H + 1, 1, none⟩ (.int .i64 bi)).setCell ⟨H + 1, 2, none⟩ (.slice va m vc)).setCell ⟨H + 2, 0, none⟩ (.int .i64 0)).setCell ⟨H + 2, 1, none⟩ (.int .i64 0)) va m (lowA qb ops) by
          have o1 := HBx.out.ops.only bR.row (by decide) onA (by rw [onA.size]; exact Nat.le_refl _) (by omega)
          have rF : (((wr.setCell ⟨H + 1, 0, none⟩ (.int .i64 qm)).setCell ⟨H + 1, 1, none⟩ (.int .i64 bi)).setCell ⟨H + 1, 2, none⟩ (.slice va m vc)).heap[H + 2]? = _ := (onA.block (H + 2) (by omega)).trans bF.row
          have o2 := o1.only rF (by decide) onB (by rw [onB.size]; exact Nat.le_refl _) (by omega)
          obtain ⟨va', vc', e9, _, _, hat9⟩ := o2.at
          injection e9 with e91 _ _
          subst e91
          rw [hm] at hat9
          exact hat9)
        have HEe := Lib.hid (ext_only (ext_only (HE3.out.trans HBx.out.ext) onA (by have := HwH.out; omega)) onB (by have := HwH.out; omega))
        clear hin hi hkk hBx hst hcap hcm hat bC5 bR bF onA onB lR lF hlt3 hlt4 hm
        go_wp2_with fail
        exact bodyPost_ret (v := .tuple #[.agg #[.int .i64 qm, .int .i64 bi, .slice va m vc], .agg #[.int .i64 0, .int .i64 0]]) (by simp [results, Tryd.results5, go_sem, y0, y1, y2, z0, z1]) rfl ⟨⟨va, m, vc, by rw [HFF.out.1, HFF.out.2, HRR.out.1, HRR.out.2.1], by rw [HRR.out.2.2]; exact HOe.out, Hcap.out, Hcm.out⟩, HEe.out⟩
      have hlt : i < n := by omega
      have q1 : (i : Int) < (n : Int) := by omega
      have q0 : (0 : Int) ≤ (i : Int) := by omega
      have wk : IntKind.i64.wrap ((i : Int) + 1) = ((i + 1 : Nat) : Int) := by rw [IntKind.wrap_i64]; have := Hn4.out; omega
      have hil : i < ops.length := by have := Hnl.out; omega
      obtain ⟨g, hg⟩ : ∃ g, ops[i]? = some g := ⟨_, List.getElem?_eq_getElem hil⟩
      obtain ⟨b, o, rfl⟩ := HO3.out.some_of (by omega)
      obtain ⟨a1, n1, c1, a2, n2, c2, e0, e1, e2, e3, e4, e5, hL⟩ := HO3.out.at i g hg
      have e0' := cell_ext e0 HBx.out.ext; have e1' := cell_ext e1 HBx.out.ext; have e2' := cell_ext e2 HBx.out.ext; have e3' := cell_ext e3 HBx.out.ext; have e4' := cell_ext e4 HBx.out.ext; have e5' := cell_ext e5 HBx.out.ext
      have hgm := List.mem_of_getElem? hg
      have hfit := opFit_of (Hcode.out g hgm)
      have hwl : (wnt g : Nat) ≤ mw := by rw [← Hmw.out]; exact mwN_le ops g hgm
      have hll : (lowA qb (ops.take i)).length ≤ 90000 := by
        have h1 := Hlow.out i; have h2 := HcT.out i (by omega); have h3 := Hs.out
        omega
      have Ea := ext_al wr (.cells #[.int .i64 g.kind, .int .i64 g.k, .slice a1 n1 c1, .int .i64 g.q, .int .i64 g.bit, .slice a2 n2 c2] 37)
      have HLw := Lib.hid (lower_any W3 (wr.alloc (.cells #[.int .i64 g.kind, .int .i64 g.k, .slice a1 n1 c1, .int .i64 g.q, .int .i64 g.bit, .slice a2 n2 c2] 37)) Bd qb vx (lowA qb (ops.take i)) g a1 n1 c1 a2 n2 c2 (HBx.out.ext' Ea) hL bi hfit ⟨by have := Hq.out; omega, by have := Hqm.out; have := Hqr.out; omega⟩ Hbr3.out HS3.out hll)
      have Hst := Lib.hid (show lowA qb (ops.take (i + 1)) = lowA qb (ops.take i) ++ lowO qb g by rw [take_g hg, lowA_snoc])
      have bO := opbx_new wr g.kind g.k a1 n1 c1 g.q g.bit a2 n2 c2
      unfold Apps at HLw
      obtain ⟨kd, k, ctl, q, bt, cnd⟩ := g
      simp only at e0' e1' e2' e3' e4' e5' HLw bO
      have p0 := bO.x0; have p1 := bO.x1; have p2 := bO.x2; have p3 := bO.x3; have p4 := bO.x4; have p5 := bO.x5
      have Hlt := Lib.hid hlt
      clear hin hi hkk hBx hlt hil hg hL hgm hfit hwl hll Ea bO e0 e1 e2 e3 e4 e5 v2
      go_upto_region 13 with fail
      generalize wr.alloc (.cells #[.int .i64 kd, .int .i64 k, .slice a1 n1 c1, .int .i64 q, .int .i64 bt, .slice a2 n2 c2] 37) = w5 at *
      clear e0' e1' e2' e3' e4' e5'
      go_wp2_with fail
      refine HLw.out.mono ?_
      rintro e w6 ⟨rfl, v6, hM6, hB6⟩
      have HB6 := Lib.hid (show BdA W3 w6 Bd qb v6 (lowA qb (ops.take (i + 1))) by rw [Hst.out]; exact hB6)
      clear hM6 hB6 HLw p0 p1 p2 p3 p4 p5
      go_wp2_with fail
      go_roundg (n - (i + 1))
      case measure => have := Hkk.out; have := Hlt.out; omega
      case rel => exact ⟨i + 1, v6, rfl, Hlt.out, rfl, HB6.out⟩
  · have hcb := nt hc0
    have HFF := Lib.hid (show F0 = f0 ∧ F1 = f1 by
      have := HF.out
      rw [if_pos hc0] at this
      exact ⟨(congrArg Prod.fst this).symm, (congrArg Prod.snd this).symm⟩)
    have HRR := Lib.hid (HRz.out (by rw [HFF.out.1]; exact hc0))
    have ne3 : H + 1 ≠ w1.heap.size := by have := HnF.out; omega
    have ne4 : H + 2 ≠ w1.heap.size := by have := HnF.out; omega
    have ne5 : w1.heap.size ≠ H + 1 := by have := HnF.out; omega
    have ne6 : w1.heap.size ≠ H + 2 := by have := HnF.out; omega
    have bR := HRb.out.ext HX1.out; have y0 := bR.x0; have y1 := bR.x1; have y2 := bR.x2; have h0 := bR.f 0; have h1 := bR.f 1; have h2 := bR.f 2
    have bF := HFt.out.ext HX1.out; have z0 := bF.x0; have z1 := bF.x1; have k0 := bF.f 0; have k1 := bF.f 1
    have ne1 : H + 1 ≠ H + 2 := by omega
    have ne2 : H + 2 ≠ H + 1 := by omega
    clear HF hc0 Hz bR bF
    go_upto_region 3 with fail
    rw [HW1.out]
    clear HW1
    go_region
    go_wp2_with fail
    exact bodyPost_ret (v := .tuple #[.agg #[.int .i64 0, .int .i64 0, .slice none 0 0], .agg #[.int .i64 f0, .int .i64 f1]]) (by simp [results, Tryd.results5, go_sem, y0, y1, y2, z0, z1]) rfl ⟨⟨none, 0, 0, by rw [HFF.out.1, HFF.out.2, HRR.out.1, HRR.out.2.1], by rw [HRR.out.2.2]; exact ⟨rfl, Or.inl rfl⟩, Nat.le_refl _, by decide⟩, Below.drew (ext_only (ext_only (HEz.out) ((((Only.refl (H + 1) _).setCell _ _).setCell _ _).setCell _ _) (by have := HwH.out; omega)) (((Only.refl (H + 2) _).setCell _ _).setCell _ _) (by have := HwH.out; omega))⟩
end Go.Proofs.YtiicbcjenhfakaaDoor
namespace Go.Proofs.YtiicbcjenhfakaaDoor
open Go.RowKit

def bgO (k : Int) : Gop := ⟨4, k, [0], 1, 0, []⟩
def bgC (k : Int) : Gci := ⟨2, 0, [bgO k]⟩
theorem bg2F : lowF (bgC 2) = (0, 0) := by decide
theorem bg1F : lowF (bgC 1) = (0, 0) := by decide
theorem bg2Q : (lowM (bgC 2)).qubits = 2 := by unfold lowM; rw [bg2F]; decide
theorem bg1Q : (lowM (bgC 1)).qubits = 3 := by unfold lowM; rw [bg1F]; decide
theorem bg2L : 1 < (lowM (bgC 2)).ops.length := by unfold lowM; rw [bg2F]; decide
theorem bg1L : 1 < (lowM (bgC 1)).ops.length := by unfold lowM; rw [bg1F]; decide

theorem bg_ops {W : World} {H : Nat} {k : Int} (rI : W.heap[H]? = some (.cells #[.int .i64 0] 3 (0, 0))) (rO : W.heap[H + 1]? = some (.cells #[.int .i64 4, .int .i64 k, .slice (some ⟨H, 0, none⟩) 1 1, .int .i64 1, .int .i64 0, .slice none 0 0] 37 (0, 0))) : OpsAt W (some ⟨H + 1, 0, none⟩) 1 (bgC k).ops := by
  refine ⟨rfl, Or.inr ⟨_, _, rfl, (Array.getElem?_eq_some_iff.1 rO).1, fun t g hg => ?_⟩⟩
  have ht : t = 0 := by
    have : t < (bgC k).ops.length := (List.getElem?_eq_some_iff.1 hg).1
    have : (bgC k).ops.length = 1 := rfl
    omega
  subst ht
  have : g = bgO k := by simpa [bgC] using hg.symm
  subst this
  have I0 : IntsAt W none 0 [] := ⟨rfl, Or.inl rfl⟩
  have I1 : IntsAt W (some ⟨H, 0, none⟩) 1 [0] := by
    refine ⟨rfl, Or.inr ⟨_, _, rfl, (Array.getElem?_eq_some_iff.1 rI).1, fun t ht => ?_⟩⟩
    obtain rfl : t = 0 := by omega
    rw [cell_of_row W _ _ _ _ (0, 0) rI]; rfl
  refine ⟨_, 1, 1, none, 0, 0, ?_, ?_, ?_, ?_, ?_, ?_, ⟨I1, by omega, by omega, I0, by omega, by omega⟩⟩ <;> (rw [cell_of_row W _ _ _ _ (0, 0) rO]; rfl)
theorem bg2B : (lowM (bgC 2)).bits = 0 := by unfold lowM; rw [bg2F]; decide
theorem bg1B : (lowM (bgC 1)).bits = 0 := by unfold lowM; rw [bg1F]; decide
theorem bg2_base (H : Nat) (W : World) (hO : OpsAt W (some ⟨H + 1, 0, none⟩) 1 (bgC 2).ops) (hS : Shp W) (hbr : BruL W) : Calls Tryd.prog 5 #[.agg #[.int .i64 2, .int .i64 0, .slice (some ⟨H + 1, 0, none⟩) 1 1]] W fun e w' => ∃ (a : Option Addr) (m c' : Nat), e = .returned (.tuple #[.agg #[.int .i64 2, .int .i64 0, .slice a m c'], .agg #[.int .i64 0, .int .i64 0]]) ∧ (1 < m ∧ m ≤ c' ∧ c' ≤ 9223372036854775807) ∧ Ext W w' := by
  refine (Base_any (bgC 2) _ 1 1 W hO (by omega) (by omega) hS hbr).mono ?_
  rintro e w' ⟨⟨a, m, c', rfl, h, h1, h2⟩, hx⟩
  refine ⟨a, m, c', by rw [bg2F, bg2Q, bg2B], ⟨by rw [← h.1]; exact bg2L, h1, h2⟩, hx⟩
theorem bg1_base (H : Nat) (W : World) (hO : OpsAt W (some ⟨H + 1, 0, none⟩) 1 (bgC 1).ops) (hS : Shp W) (hbr : BruL W) : Calls Tryd.prog 5 #[.agg #[.int .i64 2, .int .i64 0, .slice (some ⟨H + 1, 0, none⟩) 1 1]] W fun e w' => ∃ (a : Option Addr) (m c' : Nat), e = .returned (.tuple #[.agg #[.int .i64 3, .int .i64 0, .slice a m c'], .agg #[.int .i64 0, .int .i64 0]]) ∧ (1 < m ∧ m ≤ c' ∧ c' ≤ 9223372036854775807) ∧ Ext W w' := by
  refine (Base_any (bgC 1) _ 1 1 W hO (by omega) (by omega) hS hbr).mono ?_
  rintro e w' ⟨⟨a, m, c', rfl, h, h1, h2⟩, hx⟩
  refine ⟨a, m, c', by rw [bg1F, bg1Q, bg1B], ⟨by rw [← h.1]; exact bg1L, h1, h2⟩, hx⟩

set_option maxRecDepth 100000 in
set_option maxHeartbeats 2000000 in
theorem lowerBegun_any (w : World) (hS : Shp w) (hbr : BruL w) : Calls Tryd.prog 7 #[] w fun e w' => e = .returned (.bool true) ∧ Ext w w' := by
  have HS := Lib.hid hS; have Hbr := Lib.hid hbr
  clear hS hbr
  obtain ⟨H, hH⟩ : ∃ H, w.heap.size = H := ⟨_, rfl⟩
  go_enter Tryd.func7, Tryd.ntmps7
  go_upto_region 2 with fail
  obtain ⟨A1, hA1⟩ : ∃ A1, w.alloc (.cells #[.int .i64 0] 3) = A1 := ⟨_, rfl⟩
  rw [hA1]
  obtain ⟨A2, hA2⟩ : ∃ A2, A1.alloc (.cells #[.int .i64 4, .int .i64 2, .slice (some ⟨H, 0, none⟩) 1 1, .int .i64 1, .int .i64 0, .slice none 0 0] 37) = A2 := ⟨_, rfl⟩
  rw [hA2]
  obtain ⟨A3, hA3⟩ : ∃ A3, A2.alloc (.cells #[.int .i64 2, .int .i64 0, .slice (some ⟨H + 1, 0, none⟩) 1 1] 24) = A3 := ⟨_, rfl⟩
  rw [hA3]
  have s1 : A1.heap.size = H + 1 := by rw [← hA1, ← hH]; simp
  have s2 : A2.heap.size = H + 1 + 1 := by rw [← hA2]; simp [s1]
  have x1 : Ext w A1 := by rw [← hA1]; exact ext_al _ _
  have x2 : Ext A1 A2 := by rw [← hA2]; exact ext_al _ _
  have x3 : Ext A2 A3 := by rw [← hA3]; exact ext_al _ _
  have r1 : A1.heap[H]? = some (.cells #[.int .i64 0] 3 (0, 0)) := by rw [← hA1, ← hH]; exact heap_alloc_new w _
  have r2 : A2.heap[H + 1]? = some (.cells #[.int .i64 4, .int .i64 2, .slice (some ⟨H, 0, none⟩) 1 1, .int .i64 1, .int .i64 0, .slice none 0 0] 37 (0, 0)) := by rw [← hA2, ← s1]; exact heap_alloc_new A1 _
  have r3 : A3.heap[H + 1 + 1]? = some (.cells #[.int .i64 2, .int .i64 0, .slice (some ⟨H + 1, 0, none⟩) 1 1] 24 (0, 0)) := by rw [← hA3, ← s2]; exact heap_alloc_new A2 _
  have R2 := (x3.block _ (Array.getElem?_eq_some_iff.1 r2).1).trans r2
  have R1 := ((x2.trans x3).block _ (Array.getElem?_eq_some_iff.1 r1).1).trans r1
  have E3 := x1.trans (x2.trans x3)
  have bC : CiB A3 (H + 1 + 1) 2 0 (some ⟨H + 1, 0, none⟩) 1 1 := ⟨r3⟩
  have HB2 := Lib.hid (bg2_base H A3 (bg_ops R1 R2) (HS.out.ext E3) (bruL_ext Hbr.out E3))
  have HR1 := Lib.hid R1; have HR2 := Lib.hid R2; have HE3 := Lib.hid E3; have HbC := Lib.hid bC; have HwH := Lib.hid hH
  have v0 := bC.x0; have v1 := bC.x1; have v2 := bC.x2
  clear hA1 hA2 hA3 s1 s2 x1 x2 x3 r1 r2 r3 R1 R2 E3 bC hH A1 A2
  go_wp2_with fail
  refine HB2.out.mono ?_
  rintro e W2 ⟨a, m, c, rfl, hm, hx2⟩
  obtain ⟨G, hG⟩ : ∃ G, W2.heap.size = G := ⟨_, rfl⟩
  have HX2 := Lib.hid hx2; have HM := Lib.hid hm
  clear hx2 hm HB2 v0 v1 v2
  go_upto_region 3 with fail
  obtain ⟨B1, hB1⟩ : ∃ B1, W2.alloc (.cells #[.int .i64 2, .int .i64 0, .slice a m c] 24) = B1 := ⟨_, rfl⟩
  rw [hB1]
  obtain ⟨B2, hB2⟩ : ∃ B2, B1.alloc (.cells #[.int .i64 0, .int .i64 0] 27) = B2 := ⟨_, rfl⟩
  rw [hB2]
  have s1 : B1.heap.size = G + 1 := by rw [← hB1, ← hG]; simp
  have y1 : Ext W2 B1 := by rw [← hB1]; exact ext_al _ _
  have y2 : Ext B1 B2 := by rw [← hB2]; exact ext_al _ _
  have b1 : CiB B1 G 2 0 a m c := ⟨by rw [← hB1, ← hG]; exact heap_alloc_new W2 _⟩
  have b2 : FtB B2 (G + 1) 0 0 := ⟨by rw [← hB2, ← s1]; exact heap_alloc_new B1 _⟩
  have hGH : H + 1 + 1 < G := by have h1 := HbC.out.lt; have h2 := HX2.out.size; omega
  have y3 : Ext A3 B2 := HX2.out.trans (y1.trans y2)
  have bC := HbC.out.ext y3
  have R1 := (y3.block _ (Array.getElem?_eq_some_iff.1 HR1.out).1).trans HR1.out
  have R2 := (y3.block _ (Array.getElem?_eq_some_iff.1 HR2.out).1).trans HR2.out
  have b1' := b1.ext y2
  obtain ⟨C, hC⟩ : ∃ C, B2.setCell ⟨H + 1, 1, none⟩ (.int .i64 1) = C := ⟨_, rfl⟩
  have on : Only (H + 1) B2 C := by rw [← hC]; exact (Only.refl _ _).setCell _ _
  have Q1 := (on.block H (by omega)).trans R1
  have Q2 : C.heap[H + 1]? = some (.cells #[.int .i64 4, .int .i64 1, .slice (some ⟨H, 0, none⟩) 1 1, .int .i64 1, .int .i64 0, .slice none 0 0] 37 (0, 0)) := by rw [← hC]; exact heap_setCell_same B2 (H + 1) 1 _ _ (.int .i64 1) R2
  have bC' : CiB C (H + 1 + 1) 2 0 (some ⟨H + 1, 0, none⟩) 1 1 := ⟨(on.block _ (by omega)).trans bC.row⟩
  have b3 : CiB C G 2 0 a m c := ⟨(on.block _ (by omega)).trans b1'.row⟩
  have b4 : FtB C (G + 1) 0 0 := ⟨(on.block _ (by omega)).trans b2.row⟩
  have E4 : Ext w C := ext_only (HE3.out.trans y3) on (by have := HwH.out; omega)
  have HB1 := Lib.hid (bg1_base H C (bg_ops Q1 Q2) (HS.out.ext E4) (bruL_ext Hbr.out E4))
  have Hb3 := Lib.hid b3; have Hb4 := Lib.hid b4; have HE4 := Lib.hid E4; have HbD := Lib.hid bC'
  have v2 := bC.x2
  have z1 : B2.cell? ⟨H + 1, 0 + 0 * 6 + 1, none⟩ = some (.int .i64 2) := by rw [cell_of_row B2 _ _ _ _ (0, 0) R2]; rfl
  have z2 := z1
  simp only [Nat.zero_mul, Nat.zero_add] at z2
  have f1 : B2.frozen? ⟨H + 1, 1, none⟩ = false := frozen_of_row B2 _ _ _ _ R2
  have HC := Lib.hid hC
  clear hB1 hB2 s1 y1 y2 b1 b2 hGH y3 bC R1 R2 b1' hC on Q1 Q2 bC' b3 b4 E4 HR1 HR2 HE3 HbC HX2 B1 hG W2
  go_upto_region 4 with fail
  rw [HC.out]
  clear v2 z1 z2 f1 HC
  have v0 := HbD.out.x0; have v1 := HbD.out.x1; have v2 := HbD.out.x2
  go_wp2_with fail
  refine HB1.out.mono ?_
  rintro e W5 ⟨a', m', c', rfl, hm, hx5⟩
  obtain ⟨J, hJ⟩ : ∃ J, W5.heap.size = J := ⟨_, rfl⟩
  have HX5 := Lib.hid hx5; have HM' := Lib.hid hm
  clear hx5 hm HB1 v0 v1 v2
  go_upto_region 5 with fail
  obtain ⟨B3, hB3⟩ : ∃ B3, W5.alloc (.cells #[.int .i64 3, .int .i64 0, .slice a' m' c'] 24) = B3 := ⟨_, rfl⟩
  rw [hB3]
  obtain ⟨B4, hB4⟩ : ∃ B4, B3.alloc (.cells #[.int .i64 0, .int .i64 0] 27) = B4 := ⟨_, rfl⟩
  rw [hB4]
  have s1 : B3.heap.size = J + 1 := by rw [← hB3, ← hJ]; simp
  have y1 : Ext W5 B3 := by rw [← hB3]; exact ext_al _ _
  have y2 : Ext B3 B4 := by rw [← hB4]; exact ext_al _ _
  have b1 : CiB B4 J 3 0 a' m' c' := CiB.ext ⟨by rw [← hB3, ← hJ]; exact heap_alloc_new W5 _⟩ y2
  have b2 : FtB B4 (J + 1) 0 0 := ⟨by rw [← hB4, ← s1]; exact heap_alloc_new B3 _⟩
  have y3 := HX5.out.trans (y1.trans y2)
  have b3 := Hb3.out.ext y3; have b4 := Hb4.out.ext y3
  have HE := Lib.hid (HE4.out.trans y3)
  have g0 := b1.x0; have g2 := b1.x2; have g3 := b2.x0; have k0 := b3.x0; have k2 := b3.x2; have k3 := b4.x0
  have q1 : (1 : Int) < (m : Int) := by have := HM.out.1; omega
  have q2 : (1 : Int) < (m' : Int) := by have := HM'.out.1; omega
  clear hB3 hB4 s1 y1 y2 b1 b2 y3 b3 b4 hJ B3
  go_wp2_with fail
  go_ret
  exact ⟨rfl, HE.out⟩
end Go.Proofs.YtiicbcjenhfakaaDoor
namespace Go.Proofs.YtiicbcjenhfakaaDoor
open Go.RowKit

set_option maxHeartbeats 1000000 in
theorem sameInts_any (l : List Int) (a1 : Option Addr) (n c1 : Nat) (a2 : Option Addr) (c2 : Nat) (w : World) (h1 : IntsAt w a1 n l) (h2 : IntsAt w a2 n l) (hc1 : n ≤ c1) (hm1 : c1 ≤ 9223372036854775807) :
    Calls Tryd.prog 18 #[.slice a1 n c1, .slice a2 n c2] w fun e w' => e = .returned (.bool true) ∧ Ext w w' := by
  have H1 := Lib.hid h1; have H2 := Lib.hid h2
  clear h1 h2
  go_enter Tryd.func18, Tryd.ntmps18
  go_wp2_with fail
  go_loopg [5] n (fun kk s5 wx => ∃ i : Nat, s5 = .int .i64 (i : Int) ∧ i ≤ n ∧ n - i = kk ∧ Ext w wx)
  case atStart => exact ⟨0, rfl, by omega, by omega, Ext.refl w⟩
  case round =>
    obtain ⟨i, rfl, hi1, hk, hE⟩ := hrel
    have HE := Lib.hid hE
    by_cases hin : i = n
    · have h2 : ¬ (i : Int) < (n : Int) := by omega
      clear hE
      go_wp2_with fail
      go_ret
      exact ⟨rfl, HE.out⟩
    · have h2 : (i : Int) < (n : Int) := by omega
      have h0 : (0 : Int) ≤ (i : Int) := by omega
      obtain ⟨b1, o1, rfl, hb1, hc1'⟩ := (H1.out.ext hE).at (by omega)
      obtain ⟨b2, o2, rfl, hb2, hc2'⟩ := (H2.out.ext hE).at (by omega)
      have e1 := hc1' i (by omega); have e2 := hc2' i (by omega)
      obtain ⟨x, hx⟩ : ∃ x, l.getD i 0 = x := ⟨_, rfl⟩
      rw [hx] at e1 e2
      have HEd := Lib.hid (cdrew hE)
      clear hE hc1' hc2' hx
      go_wp2_with fail
      go_region
      go_wp2_with fail
      go_roundg (n - (i + 1))
      case measure => omega
      case rel => exact ⟨i + 1, by go_num, by omega, rfl, HEd.out⟩

set_option maxHeartbeats 4000000 in
set_option maxRecDepth 100000 in
theorem sameCircuit_any (c : Gci) (a1 : Option Addr) (n c1 : Nat) (a2 : Option Addr) (c2 : Nat) (w : World) (h1 : OpsAt w a1 n c.ops) (h2 : OpsAt w a2 n c.ops) (hn1 : n ≤ c1) (hm1 : c1 ≤ 9223372036854775807) (_hn2 : n ≤ c2) (_hm2 : c2 ≤ 9223372036854775807) :
    Calls Tryd.prog 8 #[.agg #[.int .i64 c.qubits, .int .i64 c.bits, .slice a1 n c1], .agg #[.int .i64 c.qubits, .int .i64 c.bits, .slice a2 n c2]] w fun e w' => e = .returned (.bool true) ∧ Ext w w' := by
  obtain ⟨qb, bi, ops⟩ := c
  simp only at h1 h2 ⊢
  obtain ⟨A1, hA1⟩ : ∃ A1, w.alloc (.cells #[.int .i64 qb, .int .i64 bi, .slice a1 n c1] 24) = A1 := ⟨_, rfl⟩
  obtain ⟨A2, hA2⟩ : ∃ A2, A1.alloc (.cells #[.int .i64 qb, .int .i64 bi, .slice a2 n c2] 24) = A2 := ⟨_, rfl⟩
  have s1 : A1.heap.size = w.heap.size + 1 := by rw [← hA1]; simp
  have x1 : Ext w A1 := by rw [← hA1]; exact ext_al _ _
  have x2 : Ext A1 A2 := by rw [← hA2]; exact ext_al _ _
  have bC : CiB A2 w.heap.size qb bi a1 n c1 := by
    have : CiB A1 w.heap.size qb bi a1 n c1 := by rw [← hA1]; exact ⟨heap_alloc_new w _⟩
    exact this.ext x2
  have bD : CiB A2 (w.heap.size + 1) qb bi a2 n c2 := by rw [← hA2, ← s1]; exact ⟨heap_alloc_new A1 _⟩
  have hA : (w.alloc (.cells #[.int .i64 qb, .int .i64 bi, .slice a1 n c1] 24)).alloc (.cells #[.int .i64 qb, .int .i64 bi, .slice a2 n c2] 24) = A2 := by rw [hA1, hA2]
  have E0 := x1.trans x2
  have m0 := bC.x0; have m1 := bC.x1; have m2 := bC.x2; have k0 := bD.x0; have k1 := bD.x1; have k2 := bD.x2
  rw [← hA] at m0 m1 m2 k0 k1 k2
  have HA := Lib.hid hA; have HC := Lib.hid bC; have HD := Lib.hid bD; have HE0 := Lib.hid E0
  have H1 := Lib.hid h1; have H2 := Lib.hid h2; have Hl := Lib.hid h1.1
  clear h1 h2 hA1 hA2 s1 x1 x2 bC bD hA E0
  go_enter Tryd.func8, Tryd.ntmps8
  go_wp2_with fail
  rw [HA.out]
  clear m0 m1 m2 k0 k1 k2
  go_loopg [5] n (fun kk s5 wx => ∃ i : Nat, s5 = .int .i64 (i : Int) ∧ i ≤ n ∧ n - i = kk ∧ Ext A2 wx)
  case atStart => exact ⟨0, rfl, by omega, by omega, Ext.refl A2⟩
  case round =>
    obtain ⟨i, rfl, hi1, hk, hE⟩ := hrel
    have m2 := (HC.out.ext hE).x2; have k2 := (HD.out.ext hE).x2
    by_cases hin : i = n
    · have h2 : ¬ (i : Int) < (n : Int) := by omega
      have HE := Lib.hid (HE0.out.trans hE)
      clear hE
      go_wp2_with fail
      go_ret
      exact ⟨rfl, HE.out⟩
    · have h2 : (i : Int) < (n : Int) := by omega
      have h0 : (0 : Int) ≤ (i : Int) := by omega
      obtain ⟨b, o, rfl⟩ := H1.out.some_of (by omega)
      obtain ⟨b', o', rfl⟩ := H2.out.some_of (by omega)
      obtain ⟨g, hg⟩ : ∃ g, ops[i]? = some g := ⟨_, List.getElem?_eq_getElem (by rw [Hl.out]; omega)⟩
      obtain ⟨p1, q1, r1, p2, q2, r2, e0, e1, e2, e3, e4, e5, hL⟩ := ((H1.out.ext HE0.out).ext hE).at i g hg
      obtain ⟨p1', q1', r1', p2', q2', r2', d0, d1, d2, d3, d4, d5, hL'⟩ := ((H2.out.ext HE0.out).ext hE).at i g hg
      have hq1 := hL.i1.1.symm.trans hL'.i1.1; have hq2 := hL.i2.1.symm.trans hL'.i2.1
      subst hq1; subst hq2
      have Ea := ext_al wr (.cells #[.int .i64 g.kind, .int .i64 g.k, .slice p1 q1 r1, .int .i64 g.q, .int .i64 g.bit, .slice p2 q2 r2] 37)
      have bO := opbx_new wr g.kind g.k p1 q1 r1 g.q g.bit p2 q2 r2
      obtain ⟨X1, hX1⟩ : ∃ X, wr.alloc (.cells #[.int .i64 g.kind, .int .i64 g.k, .slice p1 q1 r1, .int .i64 g.q, .int .i64 g.bit, .slice p2 q2 r2] 37) = X := ⟨_, rfl⟩
      have sX : X1.heap.size = wr.heap.size + 1 := by rw [← hX1]; simp
      rw [hX1] at Ea bO
      have Eb := ext_al X1 (.cells #[.int .i64 g.kind, .int .i64 g.k, .slice p1' q1 r1', .int .i64 g.q, .int .i64 g.bit, .slice p2' q2 r2'] 37)
      have bP := opbx_new X1 g.kind g.k p1' q1 r1' g.q g.bit p2' q2 r2'
      rw [sX] at bP
      obtain ⟨X2, hX2⟩ : ∃ X, X1.alloc (.cells #[.int .i64 g.kind, .int .i64 g.k, .slice p1' q1 r1', .int .i64 g.q, .int .i64 g.bit, .slice p2' q2 r2'] 37) = X := ⟨_, rfl⟩
      rw [hX2] at Eb bP
      have bO2 := bO.ext Eb
      have EX := Ea.trans Eb
      have HXX : Hid ((wr.alloc (.cells #[.int .i64 g.kind, .int .i64 g.k, .slice p1 q1 r1, .int .i64 g.q, .int .i64 g.bit, .slice p2 q2 r2] 37)).alloc (.cells #[.int .i64 g.kind, .int .i64 g.k, .slice p1' q1 r1', .int .i64 g.q, .int .i64 g.bit, .slice p2' q2 r2'] 37) = X2) := by show _ = _; rw [hX1, hX2]
      have d0' := cell_ext d0 Ea; have d1' := cell_ext d1 Ea; have d2' := cell_ext d2 Ea; have d3' := cell_ext d3 Ea; have d4' := cell_ext d4 Ea; have d5' := cell_ext d5 Ea
      have k2' := cell_ext k2 Ea
      rw [← hX1] at d0' d1' d2' d3' d4' d5' k2'
      have HS1 := Lib.hid (fun wx (hx : Ext X2 wx) => sameInts_any g.ctl p1 q1 r1 p1' r1' wx ((hL.i1.ext EX).ext hx) ((hL'.i1.ext EX).ext hx) hL.h1 hL.m1)
      have HS2 := Lib.hid (fun wx (hx : Ext X2 wx) => sameInts_any g.cnd p2 q2 r2 p2' r2' wx ((hL.i2.ext EX).ext hx) ((hL'.i2.ext EX).ext hx) hL.h2 hL.m2)
      obtain ⟨kd, kk', ctl, qq, bb, cnd⟩ := g
      simp only at e0 e1 e2 e3 e4 e5 d0' d1' d2' d3' d4' d5' k2' bO2 bP HXX HS1 HS2
      have p_0 := bO2.x0; have p_1 := bO2.x1; have p_2 := bO2.x2; have p_3 := bO2.x3; have p_4 := bO2.x4; have p_5 := bO2.x5
      have q_0 := bP.x0; have q_1 := bP.x1; have q_2 := bP.x2; have q_3 := bP.x3; have q_4 := bP.x4; have q_5 := bP.x5
      rw [← HXX.out] at p_0 p_1 p_2 p_3 p_4 p_5 q_0 q_1 q_2 q_3 q_4 q_5
      have HbO := Lib.hid bO2; have HbP := Lib.hid bP
      have HEX := Lib.hid (hE.trans EX)
      clear hg hL hL' d0 d1 d2 d3 d4 d5 Ea Eb bO bP bO2 hX1 hX2 sX EX hE k2
      go_wp2_with fail
      rw [HXX.out]
      refine (HS1.out X2 (Ext.refl X2)).mono ?_
      rintro e w5 ⟨rfl, hx5⟩
      have p_5 := (HbO.out.ext hx5).x5; have q_5 := (HbP.out.ext hx5).x5
      have HX5 := Lib.hid hx5
      clear hx5
      go_wp2_with fail
      refine (HS2.out w5 HX5.out).mono ?_
      rintro e w6 ⟨rfl, hx6⟩
      have HE6 := Lib.hid ((HEX.out.trans HX5.out).trans hx6)
      clear hx6
      go_wp2_with fail
      go_roundg (n - (i + 1))
      case measure => omega
      case rel => exact ⟨i + 1, by go_num, by omega, rfl, HE6.out⟩

end Go.Proofs.YtiicbcjenhfakaaDoor
namespace Go.Proofs.YtiicbcjenhfakaaDoor
open Go.RowKit

theorem mts_le : ∀ (l : List Gop), mts l ≤ l.length
  | [] => Nat.le_refl _
  | g :: r => by
    have ih := mts_le r
    have e : mts (g :: r) = mtO g + mts r := by unfold mts; simp
    have : mtO g ≤ 1 := by unfold mtO; split <;> omega
    rw [e, List.length_cons]; omega
theorem lowA_mts {n B : Int} : ∀ (l : List Gop), (∀ g ∈ l, opCode g n B = 0) → mts (lowA n l) = mts l
  | [], _ => by simp [lowA, mts]
  | g :: r, h => by
    have ih := lowA_mts r (fun x hx => h x (by simp [hx]))
    have e : lowA n (g :: r) = lowO n g ++ lowA n r := by simp [lowA]
    rw [e, mts_append, low_mts (h g (by simp)), ih]
    unfold mts; simp
theorem lowF_zero {c : Gci} (h : (lowF c).1 = 0) : lowF c = (0, 0) ∧ (chk c).1 = 0 ∧ (c.ops.length : Int) + 220 * cntP hasC c.ops ≤ 4096 ∧ c.qubits + mwN c.ops ≤ 12 := by
  unfold lowF at h ⊢
  by_cases h1 : (chk c).1 ≠ 0
  · rw [if_pos h1] at h; exact absurd h h1
  rw [if_neg h1] at h ⊢
  by_cases h2 : 4096 < (c.ops.length : Int) + 220 * cntP hasC c.ops
  · rw [if_pos h2] at h; exact absurd h (by decide)
  rw [if_neg h2] at h ⊢
  by_cases h3 : 12 < c.qubits + mwN c.ops
  · rw [if_pos h3] at h; exact absurd h (by decide)
  rw [if_neg h3]
  exact ⟨rfl, by simpa using h1, by omega, by omega⟩
/-- What Base answers where there is no fault. -/
theorem low_good {c : Gci} (h : (lowF c).1 = 0) : chk (lowM c) = (0, 0) ∧ (∀ g ∈ (lowM c).ops, isBas g = true) ∧ ((lowM c).ops.length : Int) ≤ (c.ops.length : Int) + 220 * cntP hasC c.ops ∧ mts (lowM c).ops = mts c.ops ∧ (lowM c).qubits = c.qubits + mwN c.ops ∧ (lowM c).bits = c.bits ∧ (c.ops.length : Int) + 220 * cntP hasC c.ops ≤ 4096 ∧ c.qubits + mwN c.ops ≤ 12 ∧ 1 ≤ c.qubits := by
  obtain ⟨_, hc, hs, hq⟩ := lowF_zero h
  obtain ⟨_, h1, h2, h3, h4, h5, h6⟩ := chk_zero hc
  unfold lowM
  rw [if_pos h]
  simp only
  have hl := lowA_len h2 c.ops h6
  have hok : ∀ g ∈ lowA c.qubits c.ops, LOk (c.qubits + mwN c.ops) c.bits g := by
    intro g hg
    unfold lowA at hg
    obtain ⟨o, ho, hgo⟩ := List.mem_flatMap.1 hg
    have := mwN_le c.ops o ho
    exact low_ok (h6 o ho) (by omega) (by omega) g hgo
  refine ⟨?_, fun g hg => (hok g hg).bas, hl, lowA_mts c.ops h6, trivial, trivial, hs, hq, h1⟩
  unfold chk
  simp only
  rw [if_neg (by omega), if_neg (by omega), if_neg (by omega)]
  exact opsCode_none _ 0 (fun g hg => (hok g hg).code)
theorem low_bad {c : Gci} (h : (lowF c).1 ≠ 0) : lowM c = ⟨0, 0, []⟩ := by unfold lowM; rw [if_neg h]

set_option maxHeartbeats 8000000 in
set_option maxRecDepth 100000 in
theorem forms_walk (c : Gci) (ao : Option Addr) (n cp : Nat) (w : World) (h : OpsAt w ao n c.ops) (hn : n ≤ cp) (hcp : cp ≤ 9223372036854775807) (hbn : n * 80 ≤ 140737488355328) (hbl : ∀ g ∈ c.ops, g.ctl.length * 8 ≤ 140737488355328 ∧ g.cnd.length * 8 ≤ 140737488355328) (hS : Shp w) (hbr : BruL w) :
    Calls Tryd.prog 3 #[.agg #[.int .i64 c.qubits, .int .i64 c.bits, .slice ao n cp]] w fun e w' => e = .returned (.bool true) ∧ Ext w w' := by
  have hmx : ∀ {k : Nat}, k ≤ maxLen → k ≤ 9223372036854775807 := fun h => h
  have HG := Lib.hid (low_good (c := c)); have HZ := Lib.hid (low_bad (c := c)); have HF0 := Lib.hid (lowF_zero (c := c))
  obtain ⟨F, hF⟩ : ∃ F, lowF c = F := ⟨_, rfl⟩
  obtain ⟨F0, F1⟩ := F
  obtain ⟨M, hM⟩ : ∃ M, lowM c = M := ⟨_, rfl⟩
  obtain ⟨Aa, hA⟩ : ∃ Aa : Int, (if F0 = 0 then (mwN c.ops : Int) else 0) = Aa := ⟨_, rfl⟩
  have HCp := Lib.hid (fun wx (hx : Ext w wx) => CopyCircuit_any c ao n cp wx (h.ext hx) hbn hbl)
  have HBa := Lib.hid (fun wx (hx : Ext w wx) a' c' (hO : OpsAt wx a' n c.ops) (h1 : n ≤ c') (h2 : c' ≤ maxLen) => Base_any c a' n c' wx hO h1 (hmx h2) (hS.ext hx) (bruL_ext hbr hx))
  have HLf := Lib.hid (fun wx (hx : Ext w wx) => LowerFault_any c ao n cp wx (h.ext hx) hn hcp)
  have HBg := Lib.hid (fun wx (hx : Ext w wx) => lowerBegun_any wx (hS.ext hx) (bruL_ext hbr hx))
  have HSa := Lib.hid (fun wx (hx : Ext w wx) a' c' (hO : OpsAt wx a' n c.ops) (h1 : n ≤ c') (h2 : c' ≤ maxLen) => sameCircuit_any c a' n c' ao cp wx hO (h.ext hx) h1 (hmx h2) hn hcp)
  have HRk := Lib.hid (fun wx a' m' c' (hO : OpsAt wx a' m' M.ops) (h1 : m' ≤ c') (h2 : c' ≤ 9223372036854775807) => RCheck_any M a' m' c' wx hO h1 h2)
  rw [hF, hM] at HBa HG
  rw [hF] at HLf HZ HF0
  rw [hM] at HZ
  have HO := Lib.hid h
  have Hnl := Lib.hid (show c.ops.length = n from h.1)
  simp only [hA] at HLf
  have HA := Lib.hid hA
  clear hF hM hA h hS hbr hbn hbl
  obtain ⟨qb, bi, ops⟩ := c
  obtain ⟨Mq, Mb, Mo⟩ := M
  simp only at HCp HBa HLf HSa HRk HG HZ HF0 HA HO Hnl ⊢
  have EC := ext_al w (.cells #[.int .i64 qb, .int .i64 bi, .slice ao n cp] 24)
  have bC : CiB (w.alloc (.cells #[.int .i64 qb, .int .i64 bi, .slice ao n cp] 24)) w.heap.size qb bi ao n cp := ⟨heap_alloc_new w _⟩
  obtain ⟨H, hH⟩ : ∃ H, w.heap.size = H := ⟨_, rfl⟩
  obtain ⟨W0, hW0⟩ : ∃ W0, w.alloc (.cells #[.int .i64 qb, .int .i64 bi, .slice ao n cp] 24) = W0 := ⟨_, rfl⟩
  rw [hW0] at EC bC
  rw [hH] at bC
  have HE0 := Lib.hid EC; have HC0 := Lib.hid bC; have HW0 := Lib.hid hW0
  clear EC bC hW0
  go_enter Tryd.func3, Tryd.ntmps3
  go_upto_region 1 with fail
  rw [HW0.out]
  clear HW0 hH
  have d0 := HC0.out.x0; have d1 := HC0.out.x1; have d2 := HC0.out.x2
  go_wp2_with fail
  refine (HCp.out _ HE0.out).mono ?_
  rintro e w1 ⟨⟨a1, c1, rfl, m1, x1, K1⟩, hx1⟩
  obtain ⟨G1, hG1⟩ : ∃ G, w1.heap.size = G := ⟨_, rfl⟩
  obtain ⟨W1, hW1⟩ : ∃ W1, w1.alloc (.cells #[.int .i64 qb, .int .i64 bi, .slice a1 n c1] 24) = W1 := ⟨_, rfl⟩
  have y1 : Ext w1 W1 := by rw [← hW1]; exact ext_al _ _
  have HE1 := Lib.hid (HE0.out.trans (hx1.trans y1)); have HC1 := Lib.hid (HC0.out.ext (hx1.trans y1)); have HK1 := Lib.hid (K1.ext y1)
  have HD1 := Lib.hid (show CiB W1 G1 qb bi a1 n c1 from ⟨by rw [← hW1, ← hG1]; exact heap_alloc_new w1 _⟩)
  have HW1 := Lib.hid hW1; have Hm1 := Lib.hid m1; have Hx1 := Lib.hid x1
  clear d0 d1 d2 K1 hx1 y1 hW1 HE0 HC0 HCp m1 x1
  go_upto_region 2 with fail
  rw [HW1.out]
  clear HW1 hG1
  have d0 := HD1.out.x0; have d1 := HD1.out.x1; have d2 := HD1.out.x2
  go_wp2_with fail
  refine (HBa.out W1 HE1.out a1 c1 HK1.out Hm1.out Hx1.out).mono ?_
  rintro e w2 ⟨⟨a2, m2, c2, rfl, K2, m22, x2⟩, hx2⟩
  obtain ⟨G2, hG2⟩ : ∃ G, w2.heap.size = G := ⟨_, rfl⟩
  obtain ⟨V2, hV2⟩ : ∃ V2, w2.alloc (.cells #[.int .i64 Mq, .int .i64 Mb, .slice a2 m2 c2] 24) = V2 := ⟨_, rfl⟩
  obtain ⟨W2, hW2⟩ : ∃ W2, V2.alloc (.cells #[.int .i64 F0, .int .i64 F1] 27) = W2 := ⟨_, rfl⟩
  have s2 : V2.heap.size = G2 + 1 := by rw [← hV2, ← hG2]; simp
  have y1 : Ext w2 V2 := by rw [← hV2]; exact ext_al _ _
  have y2 : Ext V2 W2 := by rw [← hW2]; exact ext_al _ _
  have y3 := hx2.trans (y1.trans y2)
  have HE2 := Lib.hid (HE1.out.trans y3); have HC2 := Lib.hid (HC1.out.ext y3); have HK1' := Lib.hid (HK1.out.ext y3); have HD1' := Lib.hid (HD1.out.ext y3)
  have HM2 := Lib.hid (show CiB W2 G2 Mq Mb a2 m2 c2 from CiB.ext ⟨by rw [← hV2, ← hG2]; exact heap_alloc_new w2 _⟩ y2)
  have HF2 := Lib.hid (show FtB W2 (G2 + 1) F0 F1 from ⟨by rw [← hW2, ← s2]; exact heap_alloc_new V2 _⟩)
  have HK2 := Lib.hid (K2.ext (y1.trans y2)); have Hm2 := Lib.hid m22; have Hx2 := Lib.hid x2
  have HV2 := Lib.hid hV2; have HW2 := Lib.hid hW2
  clear d0 d1 d2 K2 hx2 y1 y2 y3 s2 hV2 hW2 HE1 HC1 HBa HK1 HD1 m22 x2
  go_upto_region 3 with fail
  rw [HV2.out, HW2.out]
  clear HW2 HV2 hG2
  have d0 := HC2.out.x0; have d1 := HC2.out.x1; have d2 := HC2.out.x2
  go_wp2_with fail
  refine (HLf.out W2 HE2.out).mono ?_
  rintro e w3 ⟨rfl, hx3⟩
  obtain ⟨G3, hG3⟩ : ∃ G, w3.heap.size = G := ⟨_, rfl⟩
  obtain ⟨W3, hW3⟩ : ∃ W3, w3.alloc (.cells #[.int .i64 F0, .int .i64 F1] 27) = W3 := ⟨_, rfl⟩
  have y1 : Ext w3 W3 := by rw [← hW3]; exact ext_al _ _
  have y3 := hx3.trans y1
  have HE3 := Lib.hid (HE2.out.trans y3); have HC3 := Lib.hid (HC2.out.ext y3); have HK3 := Lib.hid (HK1'.out.ext y3); have HD3 := Lib.hid (HD1'.out.ext y3)
  have HM3 := Lib.hid (HM2.out.ext y3); have HF3 := Lib.hid (HF2.out.ext y3); have HKM := Lib.hid (HK2.out.ext y3)
  have HG3 := Lib.hid (show FtB W3 G3 F0 F1 from ⟨by rw [← hW3, ← hG3]; exact heap_alloc_new w3 _⟩)
  have HW3 := Lib.hid hW3
  clear d0 d1 d2 hx3 y1 y3 hW3 HE2 HC2 HLf HK1' HD1' HM2 HF2 HK2
  go_upto_region 4 with fail
  rw [HW3.out]
  clear HW3 hG3
  go_wp2_with fail
  refine (HBg.out W3 HE3.out).mono ?_
  rintro e w4 ⟨rfl, hx4⟩
  have bC := HC3.out.ext hx4; have bD := HD3.out.ext hx4; have bF := HF3.out.ext hx4; have bG := HG3.out.ext hx4
  have d0 := bC.x0; have d1 := bC.x1; have d2 := bC.x2; have e0 := bD.x0; have e1 := bD.x1; have e2 := bD.x2; have f0 := bF.x0; have f1 := bF.x1; have g0 := bG.x0; have g1 := bG.x1
  have HX4 := Lib.hid hx4
  clear bC bD bF bG hx4
  go_wp2_with fail
  refine (HSa.out w4 (HE3.out.trans HX4.out) a1 c1 (HK3.out.ext HX4.out) Hm1.out Hx1.out).mono ?_
  rintro e w5 ⟨rfl, hx5⟩
  have y := HX4.out.trans hx5
  have HE5 := Lib.hid (HE3.out.trans y); have HC5 := Lib.hid (HC3.out.ext y); have HM5 := Lib.hid (HM3.out.ext y); have HG5 := Lib.hid (HG3.out.ext y); have HKN := Lib.hid (HKM.out.ext y)
  clear d0 d1 d2 e0 e1 e2 f0 f1 g0 g1 hx5 y HE3 HC3 HM3 HG3 HKM HK3 HD3 HF3 HX4 HSa HBg
  have g0 := HG5.out.x0
  go_upto_region 6 with fail
  by_cases hz : F0 = 0
  · obtain ⟨hchk, hbas, hlen, hmts, hMq, hMb, hsum, hq12, hq1⟩ := HG.out hz
    have hAa : Aa = (mwN ops : Int) := by rw [← HA.out, if_pos hz]
    have HRK := Lib.hid (HRk.out w5 a2 m2 c2 HKN.out Hm2.out Hx2.out)
    rw [hchk] at HRK
    have wkq : IntKind.i64.wrap (qb + Aa) = Mq := by rw [IntKind.wrap_i64, hMq, hAa]; omega
    have nq := nf' (show Mq = Mq from rfl)
    have nb := nf' (show bi = bi from rfl)
    have nz := nf' (show (0 : Int) = 0 from rfl)
    subst hz
    subst hMb
    have Hbas := Lib.hid hbas; have Hlen := Lib.hid hlen; have Hmts := Lib.hid hmts; have Hsum := Lib.hid hsum
    clear hchk hbas hlen hmts hMq hsum hq12 hq1 hAa HG HZ HF0 HA HRk
    go_upto_region 8 with fail
    have u0 := HM5.out.x0; have u1 := HM5.out.x1; have u2 := HM5.out.x2
    clear g0
    go_wp2_with fail
    refine HRK.out.mono ?_
    rintro e w6 ⟨rfl, hx6⟩
    obtain ⟨G6, hG6⟩ : ∃ G, w6.heap.size = G := ⟨_, rfl⟩
    obtain ⟨U, hU⟩ : ∃ U, w6.alloc (.cells #[.int .i64 0, .int .i64 0] 27) = U := ⟨_, rfl⟩
    have y1 : Ext w6 U := by rw [← hU]; exact ext_al _ _
    have y3 := hx6.trans y1
    have HE6 := Lib.hid (HE5.out.trans y3); have HC6 := Lib.hid (HC5.out.ext y3); have HM6 := Lib.hid (HM5.out.ext y3); have HK6 := Lib.hid (HKN.out.ext y3)
    have HF6 := Lib.hid (show FtB U G6 0 0 from ⟨by rw [← hU, ← hG6]; exact heap_alloc_new w6 _⟩)
    have HU := Lib.hid hU
    clear u0 u1 u2 hx6 y1 y3 hU HE5 HC5 HM5 HKN HRK
    go_upto_region 9 with fail
    rw [HU.out]
    clear HU hG6
    have t0 := HF6.out.x0
    have u0 := HM6.out.x0; have u1 := HM6.out.x1
    have d0 := HC6.out.x0; have d1 := HC6.out.x1
    go_upto_region 11 with fail
    clear t0 u0 u1 d0 d1 wkq nq nb
    have d2 := HC6.out.x2
    have Hnn := Lib.hid (show n ≤ 4096 by have h1 := Hsum.out; have h2 := Hnl.out; have := (cntP_bound hasC ops).1; omega)
    go_wp2_with fail
    go_loopg [9, 10, 11] n (fun kk s9 s10 s11 wr => ∃ i : Nat, s9 = .int .i64 ((i : Int) + 220 * cntP hasC (ops.take i)) ∧ s10 = .int .i64 ((mts (ops.take i) : Nat) : Int) ∧ s11 = .int .i64 (i : Int) ∧ i ≤ n ∧ n - i = kk ∧ U = wr)
    case atStart => exact ⟨0, by simp [cntP], by simp [mts], rfl, Nat.zero_le _, rfl, rfl⟩
    case round =>
      obtain ⟨i, rfl, rfl, rfl, hi, hkk, rfl⟩ := hrel
      have Hkk := Lib.hid hkk
      by_cases hin : i = n
      · have q1 : ¬ (i : Int) < (n : Int) := by omega
        have hst : ops.take i = ops := List.take_of_length_le (by have := Hnl.out; omega)
        rw [hst, hin]
        rw [hin] at q1
        clear hst hkk hi hin
        go_upto_region 21 with fail
        clear d2 q1
        have Hml := Lib.hid (show Mo.length = m2 from HK6.out.1)
        have Hmm := Lib.hid (show m2 ≤ 4096 by have h1 := Hsum.out; have h2 := Hlen.out; have h3 := Hml.out; omega)
        go_wp2_with fail
        go_loopg [10, 12] m2 (fun kk s10 s12 wr => ∃ i : Nat, s10 = .int .i64 (((mts ops : Nat) : Int) - ((mts (Mo.take i) : Nat) : Int)) ∧ s12 = .int .i64 (i : Int) ∧ i ≤ m2 ∧ m2 - i = kk ∧ Ext U wr)
        case atStart => exact ⟨0, by simp [mts], rfl, Nat.zero_le _, rfl, Ext.refl _⟩
        case round =>
          clear Hkk
          obtain ⟨i, rfl, rfl, hi, hkk, hX⟩ := hrel
          have Hkk := Lib.hid hkk; have HX := Lib.hid hX
          have u2 := (HM6.out.ext hX).x2
          by_cases hin : i = m2
          · have q1 : ¬ (i : Int) < (m2 : Int) := by omega
            have hst : Mo.take i = Mo := List.take_of_length_le (by have := Hml.out; omega)
            have q2 : ((mts ops : Nat) : Int) - ((mts (Mo.take i) : Nat) : Int) = 0 := by rw [hst, Hmts.out]; omega
            rw [q2]
            have q3 : (m2 : Int) ≤ (n : Int) + 220 * cntP hasC ops := by have h1 := Hlen.out; have h2 := Hml.out; have h3 := Hnl.out; omega
            have HE := Lib.hid (HE6.out.trans hX)
            clear hst hkk hi hin q2 hX
            go_wp2_with fail
            go_ret
            exact ⟨rfl, HE.out⟩
          have hlt : i < m2 := by omega
          have q1 : (i : Int) < (m2 : Int) := by omega
          have q0 : (0 : Int) ≤ (i : Int) := by omega
          have wk : IntKind.i64.wrap ((i : Int) + 1) = ((i + 1 : Nat) : Int) := by rw [IntKind.wrap_i64]; have := Hmm.out; omega
          have hil : i < Mo.length := by have := Hml.out; omega
          obtain ⟨g, hg⟩ : ∃ g, Mo[i]? = some g := ⟨_, List.getElem?_eq_getElem hil⟩
          have HOx := (HK6.out.ext hX)
          obtain ⟨b, o, rfl⟩ := HOx.some_of (by omega)
          obtain ⟨a1, n1, c1, a2, n2, c2, e0, e1, e2, e3, e4, e5, hL⟩ := HOx.at i g hg
          have hbs := Hbas.out g (List.mem_of_getElem? hg)
          have hl1 : g.ctl.length = n1 := hL.i1.1
          have Hst := Lib.hid (show mts (Mo.take (i + 1)) = mts (Mo.take i) + mtO g by rw [take_g hg, mts_append]; unfold mts; simp)
          have hmt := mts_le (Mo.take i); have hmo := mts_le ops
          have hl2 : (Mo.take i).length ≤ i := by rw [List.length_take]; omega
          have hol : mts ops ≤ 4096 := by have := Hnl.out; have := Hnn.out; omega
          have htl : mts (Mo.take i) ≤ 4096 := by have := Hmm.out; omega
          obtain ⟨T, hT⟩ : ∃ T : Int, ((mts ops : Nat) : Int) - ((mts (Mo.take i) : Nat) : Int) = T := ⟨_, rfl⟩
          have wt : IntKind.i64.wrap (T - 1) = T - 1 := by rw [IntKind.wrap_i64, ← hT]; omega
          have HT := Lib.hid hT
          rw [hT]
          unfold isBas at hbs
          rw [hl1] at hbs
          have HRB := Lib.hid (RBasic_any (kd := g.kind) (k := g.k) (a1 := a1) (n1 := n1) (c1 := c1) (q := g.q) (bt := g.bit) (a2 := a2) (n2 := n2) (c2 := c2) (w := wr))
          rw [hbs] at HRB
          have Hlt := Lib.hid hlt
          obtain ⟨kd, k, ctl, q, bt, cnd⟩ := g
          simp only at e0 e1 e2 e3 e4 e5 HRB Hst
          clear hbs hl1 hmt hmo hl2 hol htl hT hL hg hil hlt hkk hi hin hX HOx
          go_wp2_with fail
          refine HRB.out.mono ?_
          rintro e w9 ⟨rfl, hx9⟩
          have v2 := cell_ext u2 hx9; have r0 := cell_ext e0 hx9
          have HX9 := Lib.hid (HX.out.trans hx9)
          clear u2 e0 e1 e2 e3 e4 e5 hx9 HRB
          go_upto_region 26 with fail
          by_cases hk : 5 ≤ kd
          · have Hk := Lib.hid hk
            go_wp2_with fail
            go_roundg (m2 - (i + 1))
            case measure => have := Hkk.out; have := Hlt.out; omega
            case rel => exact ⟨i + 1, by rw [Hst.out, ← HT.out]; unfold mtO; simp only; rw [if_pos Hk.out]; congr 1; omega, rfl, Hlt.out, rfl, HX9.out⟩
          · have Hk := Lib.hid hk
            have hd : decide (5 ≤ kd) = false := decide_eq_false hk
            clear wt hk
            go_wp2_with fail
            go_roundg (m2 - (i + 1))
            case measure => have := Hkk.out; have := Hlt.out; omega
            case rel => exact ⟨i + 1, by rw [Hst.out, ← HT.out]; unfold mtO; simp only; rw [if_neg (by have := Hk.out; omega)]; rfl, rfl, Hlt.out, rfl, HX9.out⟩
      have hlt : i < n := by omega
      have q1 : (i : Int) < (n : Int) := by omega
      have q0 : (0 : Int) ≤ (i : Int) := by omega
      have wk : IntKind.i64.wrap ((i : Int) + 1) = ((i + 1 : Nat) : Int) := by rw [IntKind.wrap_i64]; have := Hnn.out; omega
      have hil : i < ops.length := by have := Hnl.out; omega
      obtain ⟨g, hg⟩ : ∃ g, ops[i]? = some g := ⟨_, List.getElem?_eq_getElem hil⟩
      have HOx := (HO.out.ext HE6.out)
      obtain ⟨b, o, rfl⟩ := HOx.some_of (by omega)
      obtain ⟨a1, n1, c1, a2, n2, c2, e0, e1, e2, e3, e4, e5, hL⟩ := HOx.at i g hg
      have hl1 : g.ctl.length = n1 := hL.i1.1
      have Hst := Lib.hid (show mts (ops.take (i + 1)) = mts (ops.take i) + mtO g by rw [take_g hg, mts_append]; unfold mts; simp)
      have Hsc := Lib.hid (show cntP hasC (ops.take (i + 1)) = cntP hasC (ops.take i) + (if 0 < g.ctl.length then 1 else 0) by
        rw [take_g hg]
        by_cases hc : 0 < g.ctl.length
        · rw [if_pos hc]; exact cntP_yes (show hasC g = true from decide_eq_true hc)
        · rw [if_neg hc, Int.add_zero]; exact cntP_no (show hasC g = false from decide_eq_false hc))
      have hmt := mts_le (ops.take i); have hcb := cntP_bound hasC (ops.take i)
      have hl2 : (ops.take i).length ≤ i := by rw [List.length_take]; omega
      have hnn := Hnn.out
      obtain ⟨S, hSe⟩ : ∃ S : Int, (i : Int) + 220 * cntP hasC (ops.take i) = S := ⟨_, rfl⟩
      obtain ⟨T, hT⟩ : ∃ T : Int, ((mts (ops.take i) : Nat) : Int) = T := ⟨_, rfl⟩
      have ws : IntKind.i64.wrap (S + 1) = S + 1 := by rw [IntKind.wrap_i64, ← hSe]; omega
      have ws2 : IntKind.i64.wrap (S + 1 + 220) = S + 1 + 220 := by rw [IntKind.wrap_i64, ← hSe]; omega
      have wt : IntKind.i64.wrap (T + 1) = T + 1 := by rw [IntKind.wrap_i64, ← hT]; omega
      have HSe := Lib.hid hSe; have HT := Lib.hid hT
      rw [hSe, hT]
      have Hlt := Lib.hid hlt
      rw [hl1] at Hsc
      obtain ⟨kd, k, ctl, q, bt, cnd⟩ := g
      simp only at e0 e2 Hst
      clear hl1 hmt hcb hl2 hnn hSe hT hL hg hil hlt hkk hi hin HOx e1 e3 e4 e5
      by_cases hc : 0 < n1
      · have qc : (0 : Int) < (n1 : Int) := by omega
        by_cases hk : 5 ≤ kd
        · have Hk := Lib.hid hk
          go_wp2_with fail
          go_roundg (n - (i + 1))
          case measure => have := Hkk.out; have := Hlt.out; omega
          case rel => exact ⟨i + 1, by rw [Hsc.out, if_pos hc, ← HSe.out]; congr 1; omega, by rw [Hst.out, ← HT.out]; unfold mtO; simp only; rw [if_pos Hk.out]; rfl, rfl, Hlt.out, rfl, rfl⟩
        · have Hk := Lib.hid hk
          go_wp2_with fail
          go_roundg (n - (i + 1))
          case measure => have := Hkk.out; have := Hlt.out; omega
          case rel => exact ⟨i + 1, by rw [Hsc.out, if_pos hc, ← HSe.out]; congr 1; omega, by rw [Hst.out, ← HT.out]; unfold mtO; simp only; rw [if_neg (by have := Hk.out; omega)]; rfl, rfl, Hlt.out, rfl, rfl⟩
      · have qc : ¬ (0 : Int) < (n1 : Int) := by omega
        by_cases hk : 5 ≤ kd
        · have Hk := Lib.hid hk
          go_wp2_with fail
          go_roundg (n - (i + 1))
          case measure => have := Hkk.out; have := Hlt.out; omega
          case rel => exact ⟨i + 1, by rw [Hsc.out, if_neg hc, ← HSe.out]; congr 1; omega, by rw [Hst.out, ← HT.out]; unfold mtO; simp only; rw [if_pos Hk.out]; rfl, rfl, Hlt.out, rfl, rfl⟩
        · have Hk := Lib.hid hk
          go_wp2_with fail
          go_roundg (n - (i + 1))
          case measure => have := Hkk.out; have := Hlt.out; omega
          case rel => exact ⟨i + 1, by rw [Hsc.out, if_neg hc, ← HSe.out]; congr 1; omega, by rw [Hst.out, ← HT.out]; unfold mtO; simp only; rw [if_neg (by have := Hk.out; omega)]; rfl, rfl, Hlt.out, rfl, rfl⟩
  · have hMz := HZ.out hz
    injection hMz with z0 z1 z2
    have u0 := HM5.out.x0; have u1 := HM5.out.x1; have u2 := HM5.out.x2
    rw [z0] at u0
    rw [z1] at u1
    have hcb := nt hz
    clear hz
    have q2 : (m2 : Int) = 0 := by have := HKN.out.1; rw [z2] at this; simp at this; omega
    clear z0 z1 z2
    go_upto_region 7 with fail
    go_wp2_with fail
    go_ret
    exact ⟨rfl, HE5.out⟩
end Go.Proofs.YtiicbcjenhfakaaDoor
