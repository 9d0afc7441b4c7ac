/-
  Basic gates: Base. Basic gates: the document's example. The reference's SameInts and SameCircuit, of alike lists and circuits. LowerForms: the walk. The reference: are two numbers the same. LowerKeeps: what both shots come to, in plain numbers; a load in a region that draws its order. LowerKeeps: the walk.
-/
import Derived.Test.YthgmlhddanbbpaaDoorProg
import Derived.Test.YthgmlhddanbbpaaDoorRows
import Derived.BigQuiet
import Derived.Deep.AppendLies
import Derived.Deep.Cut
import Derived.Deep.CutRange
import Derived.Deep.LoopGhost
import Derived.Deep.MidRow
import Derived.Deep.QuietTactic
import Derived.Deep.RegionHeld3
import Derived.Defers
import Derived.Ground.Names2Prog
import Derived.Laws.AppendOwnNone
import Derived.Laws.Bits64b
import Derived.Laws.Concat
import Derived.Laws.CopyOwn
import Derived.Laws.IdiomCopy
import Derived.Laws.IdiomStrings
import Derived.Laws.ResultCell
import Derived.Laws.Rows
import Derived.Lib.AppendIntMem
import Derived.Lib.AppendStr
import Derived.Lib.AppendZeros
import Derived.Lib.AppendZerosOnto
import Derived.Lib.BitFns
import Derived.Lib.Hide
import Derived.Lib.ItoaMem
import Derived.Lib.ItoaNum
import Derived.Lib.Strings
import Derived.Lib.TrailingZeros
import Derived.LoopIn
import Derived.LoopNIn
import Derived.Maps.AppendAt
import Derived.OrdersHeld
import Derived.OrdersIn
import Derived.OwnWalk
import Derived.OwnWalkIn
import Derived.ProofKit
import Derived.RangeFuncBound
import Derived.RangeFuncCalls
import Derived.RangeFuncFrom
import Derived.RangeFuncLeaves
import Derived.Recover
import Derived.RegionTactic
import Derived.Shelf.Abstract
import Derived.Shelf.Slices.Clone
import Derived.Shelf.Slices.Turned
import Derived.Shelf.Spec.TrailingZeros
import Derived.TacticsInMore
import Derived.WalkKit
import Derived.WalkLawsBesides
import Derived.WalkSpells
import Derived.Test.YthgmlhddanbbpaaDoorS00Mem
import Derived.Test.YthgmlhddanbbpaaDoorShelf
import Derived.Test.YthgmlhddanbbpaaDoorS02ZCq
import Derived.Test.YthgmlhddanbbpaaDoorS03Uaq
import Derived.Test.YthgmlhddanbbpaaDoorS04ZXq
import Derived.Test.YthgmlhddanbbpaaDoorS05Xbq
import Derived.Test.YthgmlhddanbbpaaDoorS06Xlq
import Derived.Test.YthgmlhddanbbpaaDoorS07Cn
import Derived.Test.YthgmlhddanbbpaaDoorS08Di
import Derived.Test.YthgmlhddanbbpaaDoorS09Ka
import Derived.Test.YthgmlhddanbbpaaDoorS10Kl
import Derived.Test.YthgmlhddanbbpaaDoorS11Qb
import Derived.Test.YthgmlhddanbbpaaDoorS12Pi
import Derived.Test.YthgmlhddanbbpaaDoorS13Yrq
import Derived.Test.YthgmlhddanbbpaaDoorS14Qf
import Derived.Test.YthgmlhddanbbpaaDoorS15Qk
import Derived.Test.YthgmlhddanbbpaaDoorS16Qo
import Derived.Test.YthgmlhddanbbpaaDoorS17Qr
namespace Go.Proofs.YthgmlhddanbbpaaDoor
open Go.RowKit

theorem lower_any (w0 w : World) (Bd : Nat) (sp : Int) (v : Value) (ops : List Gop) (g : Gop) (a1 : Option Addr) (n1 c1 : Nat) (a2 : Option Addr) (n2 c2 : Nat) (hB : BdA w0 w Bd sp v ops) (hL : OpL w0 g a1 n1 c1 a2 n2 c2) (B : Int) (f : OpFit g sp B) (hsp : 0 ≤ sp ∧ sp + (wnt g : Nat) ≤ 12) (hbr : BruL w0) (hS : Shp w0) (hl : ops.length ≤ 90000) :
    Apps w0 Bd sp 15 #[.pointer (some ⟨Bd, 0, none⟩), .agg #[.int .i64 g.kind, .int .i64 g.k, .slice a1 n1 c1, .int .i64 g.q, .int .i64 g.bit, .slice a2 n2 c2]] w v ops (lowO sp g) := by
  obtain ⟨kd, k, ctl, q, bt, cnd⟩ := g
  have h1 : ctl.length = n1 := hL.i1.1
  have h2 : cnd.length = n2 := hL.i2.1
  have hc : cnd.length ≤ 24 := by
    have := f.cnd
    unfold cndOk at this
    simp only [Bool.and_eq_true, decide_eq_true_eq] at this
    exact this.1
  have h12 : ctl.length ≤ 12 := by
    by_cases hl0 : 0 < ctl.length
    · have := f.len hl0 (by have := wnt ⟨kd, k, ctl, q, bt, cnd⟩; omega)
      simp only at this; omega
    · omega
  have hbe : isBas ⟨kd, k, ctl, q, bt, cnd⟩ = (n1 == 0 || (n1 == 1 && kd == 2)) := by unfold isBas; simp only; rw [h1]
  unfold lowO
  by_cases hb : isBas ⟨kd, k, ctl, q, bt, cnd⟩ = true
  · rw [if_pos hb]
    exact lower_bas w0 w Bd sp v ops kd k a1 n1 c1 q bt a2 n2 c2 ctl cnd hB hL (by rw [← hbe]; exact hb) (by omega) (by omega) (by omega)
  · rw [if_neg hb]
    exact lower_not w0 w Bd sp v ops kd k a1 n1 c1 q bt a2 n2 c2 ctl cnd hB hL (by rw [← hbe]; simpa using hb) B f hsp (by omega) hbr hS hl
theorem lowA_len {n B : Int} (hn : n ≤ 12) : ∀ (l : List Gop), (∀ g ∈ l, opCode g n B = 0) → ((lowA n l).length : Int) ≤ (l.length : Int) + 220 * cntP hasC l
  | [], _ => by simp [lowA, cntP]
  | g :: r, h => by
    have ih := lowA_len hn r (fun x hx => h x (by simp [hx]))
    have h1 := low_len (h g (by simp)) hn
    have e : lowA n (g :: r) = lowO n g ++ lowA n r := by simp [lowA]
    rw [e, List.length_append, List.length_cons]
    unfold cntP at ih ⊢
    rw [List.filter_cons]
    by_cases hc : 0 < g.ctl.length
    · rw [if_pos hc] at h1
      rw [if_pos (show hasC g = true from decide_eq_true hc), List.length_cons]
      omega
    · rw [if_neg hc] at h1
      rw [if_neg (by rw [show hasC g = false from decide_eq_false hc]; decide)]
      omega
theorem lowA_snoc (n : Int) (l : List Gop) (g : Gop) : lowA n (l ++ [g]) = lowA n l ++ lowO n g := by unfold lowA; rw [List.flatMap_append]; simp
/-- What Base answers. -/
def lowM (c : Gci) : Gci := if (lowF c).1 = 0 then ⟨c.qubits + mwN c.ops, c.bits, lowA c.qubits c.ops⟩ else ⟨0, 0, []⟩

set_option maxRecDepth 100000 in
set_option maxHeartbeats 8000000 in
theorem Base_any (c : Gci) (ao : Option Addr) (n cp : Nat) (w : World) (h : OpsAt w ao n c.ops) (hn : n ≤ cp) (hcp : cp ≤ 9223372036854775807) (hS : Shp w) (hbr : BruL w) :
    Calls Tryd.prog 4 #[.agg #[.int .i64 c.qubits, .int .i64 c.bits, .slice ao n cp]] w fun e w' => (∃ (a : Option Addr) (m c' : Nat), e = .returned (.tuple #[.agg #[.int .i64 (lowM c).qubits, .int .i64 (lowM c).bits, .slice a m c'], .agg #[.int .i64 (lowF c).1, .int .i64 (lowF c).2]]) ∧ OpsAt w' a m (lowM c).ops ∧ m ≤ c' ∧ c' ≤ 9223372036854775807) ∧ Ext w w' := by
  obtain ⟨F, hF⟩ : ∃ F, lowF c = F := ⟨_, rfl⟩
  obtain ⟨F0, F1⟩ := F
  obtain ⟨R, hR⟩ : ∃ R, lowM c = R := ⟨_, rfl⟩
  unfold lowM at hR
  rw [hF] at hR
  rw [hF, show lowM c = R by unfold lowM; rw [hF]; exact hR]
  obtain ⟨qb, bi, ops⟩ := c
  obtain ⟨f, hf⟩ : ∃ f, chk ⟨qb, bi, ops⟩ = f := ⟨_, rfl⟩
  obtain ⟨f0, f1⟩ := f
  have hz : f0 = 0 → (1 ≤ qb ∧ qb ≤ 12) ∧ ops.length ≤ 4096 ∧ (∀ g ∈ ops, opCode g qb bi = 0) := by
    intro h0
    have hc : (chk ⟨qb, bi, ops⟩).1 = 0 := by rw [hf]; exact h0
    obtain ⟨_, h1, h2, h3, h4, h5, h6⟩ := chk_zero hc
    exact ⟨⟨h1, h2⟩, h5, h6⟩
  unfold lowF at hF
  rw [hf] at hF
  simp only at hF hR
  obtain ⟨Rq, Rb, Ro⟩ := R
  have hRz : F0 ≠ 0 → Rq = 0 ∧ Rb = 0 ∧ Ro = [] := fun e => by
    rw [if_neg e] at hR
    injection hR with e1 e2 e3
    exact ⟨e1.symm, e2.symm, e3.symm⟩
  have hRy : F0 = 0 → Rq = qb + mwN ops ∧ Rb = bi ∧ Ro = lowA qb ops := fun e => by
    rw [if_pos e] at hR
    injection hR with e1 e2 e3
    exact ⟨e1.symm, e2.symm, e3.symm⟩
  have Hz := Lib.hid hz; have Hf := Lib.hid hf; have HF := Lib.hid hF; have HRz := Lib.hid hRz; have HRy := Lib.hid hRy
  obtain ⟨H, hH⟩ : ∃ H, w.heap.size = H := ⟨_, rfl⟩
  obtain ⟨W0, hW0⟩ : ∃ W0, ((w.alloc (.cells #[.int .i64 qb, .int .i64 bi, .slice ao n cp] 24)).alloc (.cells #[.int .i64 0, .int .i64 0, .slice none 0 0] 24)).alloc (.cells #[.int .i64 0, .int .i64 0] 27) = W0 := ⟨_, rfl⟩
  have E0 : Ext w W0 := by rw [← hW0]; exact ((ext_al w _).trans (ext_al _ _)).trans (ext_al _ _)
  have bC : CiB W0 H qb bi ao n cp := by rw [← hW0, ← hH]; exact CiB.ext (CiB.ext ⟨heap_alloc_new w _⟩ (ext_al _ _)) (ext_al _ _)
  have bR : CiB W0 (H + 1) 0 0 none 0 0 := by
    have h1 := heap_alloc_new (w.alloc (.cells #[.int .i64 qb, .int .i64 bi, .slice ao n cp] 24)) (.cells #[.int .i64 0, .int .i64 0, .slice none 0 0] 24)
    rw [World.size_alloc] at h1
    rw [← hW0, ← hH]
    exact CiB.ext ⟨h1⟩ (ext_al _ _)
  have bF : FtB W0 (H + 2) 0 0 := ⟨by
    have h1 := heap_alloc_new ((w.alloc (.cells #[.int .i64 qb, .int .i64 bi, .slice ao n cp] 24)).alloc (.cells #[.int .i64 0, .int .i64 0, .slice none 0 0] 24)) (.cells #[.int .i64 0, .int .i64 0] 27)
    rw [World.size_alloc, World.size_alloc] at h1
    rw [← hW0, ← hH]; exact h1⟩
  have m0 := bC.x0; have m1 := bC.x1; have m2 := bC.x2
  have HE0 := Lib.hid E0; have HO := Lib.hid (h.ext E0); have HC := Lib.hid bC; have HRb := Lib.hid bR; have HFt := Lib.hid bF; have HS := Lib.hid (hS.ext E0); have Hbr := Lib.hid (bruL_ext hbr E0)
  have HH := Lib.hid hH; have HW0 := Lib.hid hW0; have HwH := Lib.hid (show w.heap.size ≤ H by omega)
  clear h E0 bC bF bR hF hf hz hS hbr hH hW0 hR hRz hRy
  go_enter Tryd.func4, Tryd.ntmps4
  go_upto_region 1 with fail
  rw [HW0.out, HH.out]
  have HK := Lib.hid (Check_any ⟨qb, bi, ops⟩ ao n cp W0 HO.out hn hcp HS.out)
  rw [Hf.out] at HK
  go_wp2_with fail
  refine HK.out.mono ?_
  rintro e w1 ⟨rfl, hx1⟩
  have Ef := ext_al w1 (.cells #[.int .i64 f0, .int .i64 f1] 27)
  have bf1 : FtB (w1.alloc (.cells #[.int .i64 f0, .int .i64 f1] 27)) w1.heap.size f0 f1 := ⟨heap_alloc_new w1 _⟩
  have q0 := bf1.x0; have q1 := bf1.x1
  have HX1 := Lib.hid (hx1.trans Ef)
  have HEz := Lib.hid (HE0.out.trans HX1.out)
  have HnF := Lib.hid (show H + 2 < w1.heap.size by have := HFt.out.lt; have := hx1.size; omega)
  clear m0 m1 m2 hx1 Ef bf1 HK Hf HW0 HH
  generalize hW1 : w1.alloc (.cells #[.int .i64 f0, .int .i64 f1] 27) = W1 at *
  have HW1 := Lib.hid hW1
  clear hW1
  by_cases hc0 : f0 = 0
  · obtain ⟨⟨hq1, hq2⟩, hlen, hcode⟩ := Hz.out hc0
    have hcb := nf' hc0
    have hF2 := HF.out
    rw [if_neg (fun e => e hc0)] at hF2
    have hnl := HO.out.1
    have bd := cntP_bound hasC ops
    obtain ⟨C, hC⟩ : ∃ C, cntP hasC ops = C := ⟨_, rfl⟩
    have hmw12 := mw12 (fun g hg => wnt12 (opFit_of (hcode g hg)) hq2)
    obtain ⟨mw, hmw⟩ : ∃ mw, mwN ops = mw := ⟨_, rfl⟩
    rw [hC, hmw, hnl] at hF2
    rw [hC, hnl] at bd
    rw [hmw] at hmw12
    rw [hmw] at HRy
    have HWC := Lib.hid (fun wx (hx : Ext W1 wx) => withControls_any ops ao n cp wx (HO.out.ext (HX1.out.trans hx)) (by omega))
    rw [hC] at HWC
    have HMW := Lib.hid (fun wx (hx : Ext W1 wx) => mostWanted_any ops ao n cp wx (HO.out.ext (HX1.out.trans hx)) (by omega) (fun g hg => ⟨(opFit_of (hcode g hg)).k.1, wnt12 (opFit_of (hcode g hg)) hq2⟩))
    rw [hmw] at HMW
    have Hlow := Lib.hid (fun (i : Nat) => lowA_len hq2 (ops.take i) (fun g hg => hcode g (List.mem_of_mem_take hg)))
    have HcT := Lib.hid (show ∀ i, i ≤ n → ((ops.take i).length : Int) + 220 * cntP hasC (ops.take i) ≤ (n : Int) + 220 * C from fun i hi => by
      have e1 : cntP hasC (ops.take i) + cntP hasC (ops.drop i) = C := by
        rw [← hC]
        have h4 := congrArg (cntP hasC) (List.take_append_drop i ops)
        rw [← h4]
        unfold cntP
        rw [List.filter_append, List.length_append]
        omega
      have h2 := (cntP_bound hasC (ops.drop i)).1
      rw [List.length_take]
      omega)
    obtain ⟨C2, hC2⟩ : ∃ C2, 220 * C = C2 := ⟨_, rfl⟩
    have wm : IntKind.i64.wrap (220 * C) = C2 := by rw [IntKind.wrap_i64]; omega
    obtain ⟨S, hSS⟩ : ∃ S, (n : Int) + C2 = S := ⟨_, rfl⟩
    have wa : IntKind.i64.wrap ((n : Int) + C2) = S := by rw [IntKind.wrap_i64]; omega
    rw [hC2, hSS] at hF2
    rw [hC2, hSS] at HcT
    obtain ⟨qm, hqm⟩ : ∃ qm, qb + (mw : Int) = qm := ⟨_, rfl⟩
    have wq : IntKind.i64.wrap (qb + (mw : Int)) = qm := by rw [IntKind.wrap_i64]; omega
    rw [hqm] at hF2 HRy
    have bcW := HC.out.ext HX1.out
    have v2 := bcW.x2; have v0 := bcW.x0; have v1 := bcW.x1
    have HF2 := Lib.hid hF2; have Hcode := Lib.hid hcode; have Hnl := Lib.hid hnl; have Hq := Lib.hid (show 1 ≤ qb ∧ qb ≤ 12 from ⟨hq1, hq2⟩); have Hn4 := Lib.hid (show n ≤ 4096 by omega); have Hqm := Lib.hid hqm; have Hmw := Lib.hid hmw
    have HbcW := Lib.hid bcW
    clear hc0 Hz HF hlen hcode hnl hq1 hq2 hF2 bd hC hmw12 hmw hC2 hSS hqm q1
    go_upto_region 4 with fail
    rw [HW1.out]
    clear q0 HW1
    obtain ⟨X, Fw, hFe, hFs⟩ : ∃ (X : Type) (Fw : X → World), (∀ x, Ext W1 (Fw x)) ∧ (∀ w', Ext W1 w' → ∃ x, w' = Fw x) := ⟨{ w' : World // Ext W1 w' }, Subtype.val, fun x => x.2, fun w' h => ⟨⟨w', h⟩, rfl⟩⟩
    have hXn : Nonempty X := (hFs W1 (Ext.refl W1)).elim fun x _ => ⟨x⟩
    have d0 : ∀ x, (Fw x).cell? ⟨H, 0, none⟩ = some (.int .i64 qb) := fun x => (bcW.ext (hFe x)).x0
    have d2 : ∀ x, (Fw x).cell? ⟨H, 2, none⟩ = some (.slice ao n cp) := fun x => (bcW.ext (hFe x)).x2
    have hUd : Ext W1 W1.drew := Below.drew (Ext.refl W1)
    by_cases hs : 4096 < S
    · have hF3 := HF2.out
      rw [if_pos hs] at hF3
      have HFF := Lib.hid (show F0 = 21 ∧ F1 = 0 from ⟨(congrArg Prod.fst hF3).symm, (congrArg Prod.snd hF3).symm⟩)
      have HRR := Lib.hid (HRz.out (by rw [HFF.out.1]; decide))
      clear hF3 v0 v1 v2 bcW
      refine wp_region_F (by kernel_rfl) (by kernel_rfl) (hFs _ hUd) ?_
      repeat (go_big_quiet_step (exact (HWC.out _ (hFe _)).mono (fun e w' h => ⟨h.1, hFs _ ((hFe _).trans h.2)⟩)))
      refine wpQuiet_nil ?_
      rintro _ ⟨xq, rfl⟩
      have HE2 := Lib.hid (HX1.out.trans (hFe xq)); have HE3 := Lib.hid (HEz.out.trans (hFe xq))
      generalize Fw xq = W2 at *
      clear d0 d2 hFe hFs hXn
      have bR := HRb.out.ext HE2.out; have y0 := bR.x0; have y1 := bR.x1; have y2 := bR.x2; have h0 := bR.f 0; have h1 := bR.f 1; have h2 := bR.f 2
      have bF := HFt.out.ext HE2.out; have z0 := bF.x0; have z1 := bF.x1; have k0 := bF.f 0; have k1 := bF.f 1
      have ne1 : H + 1 ≠ H + 2 := by omega
      have ne2 : H + 2 ≠ H + 1 := by omega
      clear bR bF
      go_wp2_with fail
      exact bodyPost_ret (v := .tuple #[.agg #[.int .i64 0, .int .i64 0, .slice none 0 0], .agg #[.int .i64 21, .int .i64 0]]) (by simp [results, Tryd.results4, go_sem, y0, y1, y2, z0, z1]) rfl ⟨⟨none, 0, 0, by rw [HFF.out.1, HFF.out.2, HRR.out.1, HRR.out.2.1], by rw [HRR.out.2.2]; exact ⟨rfl, Or.inl rfl⟩, Nat.le_refl _, by decide⟩, ext_only (ext_only (HE3.out) ((((Only.refl (H + 1) _).setCell _ _).setCell _ _).setCell _ _) (by have := HwH.out; omega)) (((Only.refl (H + 2) _).setCell _ _).setCell _ _) (by have := HwH.out; omega)⟩
    refine wp_region_F (by kernel_rfl) (by kernel_rfl) (hFs _ hUd) ?_
    repeat (go_big_quiet_step (exact (HWC.out _ (hFe _)).mono (fun e w' h => ⟨h.1, hFs _ ((hFe _).trans h.2)⟩)))
    refine wpQuiet_nil ?_
    rintro _ ⟨xq, rfl⟩
    have HEx := Lib.hid (hFe xq)
    generalize Fw xq = W2 at *
    clear d0 d2 hFe hFs hXn v0 v1 v2 hUd
    replace bcW := HbcW.out.ext HEx.out
    go_upto_region 6 with fail
    clear xq Fw X
    obtain ⟨X, Fw, hFe, hFs⟩ : ∃ (X : Type) (Fw : X → World), (∀ x, Ext W2 (Fw x)) ∧ (∀ w', Ext W2 w' → ∃ x, w' = Fw x) := ⟨{ w' : World // Ext W2 w' }, Subtype.val, fun x => x.2, fun w' h => ⟨⟨w', h⟩, rfl⟩⟩
    have hXn : Nonempty X := (hFs W2 (Ext.refl W2)).elim fun x _ => ⟨x⟩
    have d0 : ∀ x, (Fw x).cell? ⟨H, 0, none⟩ = some (.int .i64 qb) := fun x => (bcW.ext (hFe x)).x0
    have d2 : ∀ x, (Fw x).cell? ⟨H, 2, none⟩ = some (.slice ao n cp) := fun x => (bcW.ext (hFe x)).x2
    have hUd : Ext W2 W2.drew := Below.drew (Ext.refl W2)
    have hF3 := HF2.out
    rw [if_neg hs] at hF3
    by_cases hr : 12 < qm
    · rw [if_pos hr] at hF3
      have HFF := Lib.hid (show F0 = 36 ∧ F1 = 0 from ⟨(congrArg Prod.fst hF3).symm, (congrArg Prod.snd hF3).symm⟩)
      have HRR := Lib.hid (HRz.out (by rw [HFF.out.1]; decide))
      clear hF3 bcW
      refine wp_region_F (by kernel_rfl) (by kernel_rfl) (hFs _ hUd) ?_
      repeat (go_big_quiet_step (exact (HMW.out _ (HEx.out.trans (hFe _))).mono (fun e w' h => ⟨h.1, hFs _ ((hFe _).trans h.2)⟩)))
      refine wpQuiet_nil ?_
      rintro _ ⟨xq, rfl⟩
      have HE2 := Lib.hid (HX1.out.trans (HEx.out.trans (hFe xq))); have HE3 := Lib.hid (HEz.out.trans (HEx.out.trans (hFe xq)))
      generalize Fw xq = W3 at *
      clear d0 d2 hFe hFs hXn
      have bR := HRb.out.ext HE2.out; have y0 := bR.x0; have y1 := bR.x1; have y2 := bR.x2; have h0 := bR.f 0; have h1 := bR.f 1; have h2 := bR.f 2
      have bF := HFt.out.ext HE2.out; have z0 := bF.x0; have z1 := bF.x1; have k0 := bF.f 0; have k1 := bF.f 1
      have ne1 : H + 1 ≠ H + 2 := by omega
      have ne2 : H + 2 ≠ H + 1 := by omega
      clear bR bF
      go_wp2_with fail
      exact bodyPost_ret (v := .tuple #[.agg #[.int .i64 0, .int .i64 0, .slice none 0 0], .agg #[.int .i64 36, .int .i64 0]]) (by simp [results, Tryd.results4, go_sem, y0, y1, y2, z0, z1]) rfl ⟨⟨none, 0, 0, by rw [HFF.out.1, HFF.out.2, HRR.out.1, HRR.out.2.1], by rw [HRR.out.2.2]; exact ⟨rfl, Or.inl rfl⟩, Nat.le_refl _, by decide⟩, ext_only (ext_only (HE3.out) ((((Only.refl (H + 1) _).setCell _ _).setCell _ _).setCell _ _) (by have := HwH.out; omega)) (((Only.refl (H + 2) _).setCell _ _).setCell _ _) (by have := HwH.out; omega)⟩
    rw [if_neg hr] at hF3
    have HFF := Lib.hid (show F0 = 0 ∧ F1 = 0 from ⟨(congrArg Prod.fst hF3).symm, (congrArg Prod.snd hF3).symm⟩)
    have HRR := Lib.hid (HRy.out HFF.out.1)
    have Hs := Lib.hid (show S ≤ 4096 by omega); have Hqr := Lib.hid (show qm ≤ 12 by omega)
    clear hF3 bcW
    refine wp_region_F (by kernel_rfl) (by kernel_rfl) (hFs _ hUd) ?_
    repeat (go_big_quiet_step (exact (HMW.out _ (HEx.out.trans (hFe _))).mono (fun e w' h => ⟨h.1, hFs _ ((hFe _).trans h.2)⟩)))
    refine wpQuiet_nil ?_
    rintro _ ⟨xq, rfl⟩
    have HE2 := Lib.hid (HX1.out.trans (HEx.out.trans (hFe xq))); have HE3 := Lib.hid (HEz.out.trans (HEx.out.trans (hFe xq)))
    generalize Fw xq = W3 at *
    clear d0 d2 hFe hFs hXn hs
    have bC3 := HC.out.ext HE2.out
    have v0 := bC3.x0; have v1 := bC3.x1; have v2 := bC3.x2
    have HC3 := Lib.hid bC3
    have HO3 := Lib.hid (HO.out.ext HE2.out); have HS3 := Lib.hid (HS.out.ext HE2.out); have Hbr3 := Lib.hid (bruL_ext Hbr.out HE2.out)
    have HR3 := Lib.hid (HRb.out.ext HE2.out); have HF3 := Lib.hid (HFt.out.ext HE2.out)
    obtain ⟨Bd, hBd⟩ : ∃ Bd, W3.heap.size = Bd := ⟨_, rfl⟩
    obtain ⟨W4, hW4⟩ : ∃ W4, W3.alloc (.cells #[.int .i64 qb, .slice none 0 0] 49) = W4 := ⟨_, rfl⟩
    have HB4 := Lib.hid (show BdA W3 W4 Bd qb (.slice none 0 0) [] from ⟨by rw [← hW4]; exact ext_al _ _, by omega, by rw [← hW4, ← hBd]; exact heap_alloc_new _ _, OpsO.nil _ _⟩)
    have HBd := Lib.hid hBd; have HW4 := Lib.hid hW4
    clear bC3 hBd hW4 HWC HMW HbcW HEx
    go_upto_region 10 with fail
    rw [HW4.out, HBd.out]
    clear v0 v1 v2
    have bC4 := HC3.out.ext HB4.out.ext
    have v2 := bC4.x2
    clear bC4
    go_wp2_with fail
    go_loopg [8, 43] n (fun kk _ s43 wr => ∃ (i : Nat) (vx : Value), s43 = .int .i64 (i : Int) ∧ i ≤ n ∧ n - i = kk ∧ BdA W3 wr Bd qb vx (lowA qb (ops.take i)))
    case atStart => exact ⟨0, _, rfl, Nat.zero_le _, rfl, HB4.out⟩
    case round =>
      obtain ⟨i, vx, rfl, hi, hkk, hBx⟩ := hrel
      have HBx := Lib.hid hBx; have Hkk := Lib.hid hkk
      by_cases hin : i = n
      · have q1 : ¬ (i : Int) < (n : Int) := by omega
        have hst : ops.take i = ops := List.take_of_length_le (by have := Hnl.out; omega)
        rw [hst] at HBx
        obtain ⟨va, vc, hvc, hcap, hcm, hat⟩ := HBx.out.ops.at
        subst hvc
        obtain ⟨m, hm⟩ : ∃ m, (lowA qb ops).length = m := ⟨_, rfl⟩
        rw [hm] at HBx hcap hat
        have bC5 := HC3.out.ext HBx.out.ext
        clear v2
        have v1 := bC5.x1; have x1 := HBx.out.x1
        have bR := HR3.out.ext HBx.out.ext; have y0 := bR.x0; have y1 := bR.x1; have y2 := bR.x2; have h0 := bR.f 0; have h1 := bR.f 1; have h2 := bR.f 2
        have bF := HF3.out.ext HBx.out.ext; have z0 := bF.x0; have z1 := bF.x1; have k0 := bF.f 0; have k1 := bF.f 1
        have ne1 : H + 1 ≠ H + 2 := by omega
        have ne2 : H + 2 ≠ H + 1 := by omega
        have Hcap := Lib.hid hcap; have Hcm := Lib.hid (show vc ≤ 9223372036854775807 by unfold maxLen at hcm; omega); have Hat := Lib.hid hat
        have onA : Only (H + 1) wr (((wr.setCell ⟨H + 1, 0, none⟩ (.int .i64 qm)).setCell ⟨H + 1, 1, none⟩ (.int .i64 bi)).setCell ⟨H + 1, 2, none⟩ (.slice va m vc)) := (((Only.refl _ _).setCell _ _).setCell _ _).setCell _ _
        have onB : Only (H + 2) (((wr.setCell ⟨H + 1, 0, none⟩ (.int .i64 qm)).setCell ⟨H + 1, 1, none⟩ (.int .i64 bi)).setCell ⟨H + 1, 2, none⟩ (.slice va m vc)) (((((wr.setCell ⟨H + 1, 0, none⟩ (.int .i64 qm)).setCell ⟨H + 1, 1, none⟩ (.int .i64 bi)).setCell ⟨H + 1, 2, none⟩ (.slice va m vc)).setCell ⟨H + 2, 0, none⟩ (.int .i64 0)).setCell ⟨H + 2, 1, none⟩ (.int .i64 0)) := ((Only.refl _ _).setCell _ _).setCell _ _
        have lR := bR.lt; have lF := bF.lt
        have hlt3 := HR3.out.lt; have hlt4 := HF3.out.lt
        have HOe := Lib.hid (show OpsAt (((((wr.setCell ⟨H + 1, 0, none⟩ (.int .i64 qm)).setCell ⟨H + 1, 1, none⟩ (.int .i64 bi)).setCell ⟨H + 1, 2, none⟩ (.slice va m vc)).setCell ⟨H + 2, 0, none⟩ (.int .i64 0)).setCell ⟨H + 2, 1, none⟩ (.int .i64 0)) va m (lowA qb ops) by
          have o1 := HBx.out.ops.only bR.row (by decide) onA (by rw [onA.size]; exact Nat.le_refl _) (by omega)
          have rF : (((wr.setCell ⟨H + 1, 0, none⟩ (.int .i64 qm)).setCell ⟨H + 1, 1, none⟩ (.int .i64 bi)).setCell ⟨H + 1, 2, none⟩ (.slice va m vc)).heap[H + 2]? = _ := (onA.block (H + 2) (by omega)).trans bF.row
          have o2 := o1.only rF (by decide) onB (by rw [onB.size]; exact Nat.le_refl _) (by omega)
          obtain ⟨va', vc', e9, _, _, hat9⟩ := o2.at
          injection e9 with e91 _ _
          subst e91
          rw [hm] at hat9
          exact hat9)
        have HEe := Lib.hid (ext_only (ext_only (HE3.out.trans HBx.out.ext) onA (by have := HwH.out; omega)) onB (by have := HwH.out; omega))
        clear hin hi hkk hBx hst hcap hcm hat bC5 bR bF onA onB lR lF hlt3 hlt4 hm
        go_wp2_with fail
        exact bodyPost_ret (v := .tuple #[.agg #[.int .i64 qm, .int .i64 bi, .slice va m vc], .agg #[.int .i64 0, .int .i64 0]]) (by simp [results, Tryd.results4, go_sem, y0, y1, y2, z0, z1]) rfl ⟨⟨va, m, vc, by rw [HFF.out.1, HFF.out.2, HRR.out.1, HRR.out.2.1], by rw [HRR.out.2.2]; exact HOe.out, Hcap.out, Hcm.out⟩, HEe.out⟩
      have hlt : i < n := by omega
      have q1 : (i : Int) < (n : Int) := by omega
      have q0 : (0 : Int) ≤ (i : Int) := by omega
      have wk : IntKind.i64.wrap ((i : Int) + 1) = ((i + 1 : Nat) : Int) := by rw [IntKind.wrap_i64]; have := Hn4.out; omega
      have hil : i < ops.length := by have := Hnl.out; omega
      obtain ⟨g, hg⟩ : ∃ g, ops[i]? = some g := ⟨_, List.getElem?_eq_getElem hil⟩
      obtain ⟨b, o, rfl⟩ := HO3.out.some_of (by omega)
      obtain ⟨a1, n1, c1, a2, n2, c2, e0, e1, e2, e3, e4, e5, hL⟩ := HO3.out.at i g hg
      have e0' := cell_ext e0 HBx.out.ext; have e1' := cell_ext e1 HBx.out.ext; have e2' := cell_ext e2 HBx.out.ext; have e3' := cell_ext e3 HBx.out.ext; have e4' := cell_ext e4 HBx.out.ext; have e5' := cell_ext e5 HBx.out.ext
      have hgm := List.mem_of_getElem? hg
      have hfit := opFit_of (Hcode.out g hgm)
      have hwl : (wnt g : Nat) ≤ mw := by rw [← Hmw.out]; exact mwN_le ops g hgm
      have hll : (lowA qb (ops.take i)).length ≤ 90000 := by
        have h1 := Hlow.out i; have h2 := HcT.out i (by omega); have h3 := Hs.out
        omega
      have Ea := ext_al wr (.cells #[.int .i64 g.kind, .int .i64 g.k, .slice a1 n1 c1, .int .i64 g.q, .int .i64 g.bit, .slice a2 n2 c2] 51)
      have HLw := Lib.hid (lower_any W3 (wr.alloc (.cells #[.int .i64 g.kind, .int .i64 g.k, .slice a1 n1 c1, .int .i64 g.q, .int .i64 g.bit, .slice a2 n2 c2] 51)) Bd qb vx (lowA qb (ops.take i)) g a1 n1 c1 a2 n2 c2 (HBx.out.ext' Ea) hL bi hfit ⟨by have := Hq.out; omega, by have := Hqm.out; have := Hqr.out; omega⟩ Hbr3.out HS3.out hll)
      have Hst := Lib.hid (show lowA qb (ops.take (i + 1)) = lowA qb (ops.take i) ++ lowO qb g by rw [take_g hg, lowA_snoc])
      have bO := opbx_new wr g.kind g.k a1 n1 c1 g.q g.bit a2 n2 c2
      unfold Apps at HLw
      obtain ⟨kd, k, ctl, q, bt, cnd⟩ := g
      simp only at e0' e1' e2' e3' e4' e5' HLw bO
      have p0 := bO.x0; have p1 := bO.x1; have p2 := bO.x2; have p3 := bO.x3; have p4 := bO.x4; have p5 := bO.x5
      have Hlt := Lib.hid hlt
      clear hin hi hkk hBx hlt hil hg hL hgm hfit hwl hll Ea bO e0 e1 e2 e3 e4 e5 v2
      go_upto_region 13 with fail
      generalize wr.alloc (.cells #[.int .i64 kd, .int .i64 k, .slice a1 n1 c1, .int .i64 q, .int .i64 bt, .slice a2 n2 c2] 51) = w5 at *
      clear e0' e1' e2' e3' e4' e5'
      go_wp2_with fail
      refine HLw.out.mono ?_
      rintro e w6 ⟨rfl, v6, hM6, hB6⟩
      have HB6 := Lib.hid (show BdA W3 w6 Bd qb v6 (lowA qb (ops.take (i + 1))) by rw [Hst.out]; exact hB6)
      clear hM6 hB6 HLw p0 p1 p2 p3 p4 p5
      go_wp2_with fail
      go_roundg (n - (i + 1))
      case measure => have := Hkk.out; have := Hlt.out; omega
      case rel => exact ⟨i + 1, v6, rfl, Hlt.out, rfl, HB6.out⟩
  · have hcb := nt hc0
    have HFF := Lib.hid (show F0 = f0 ∧ F1 = f1 by
      have := HF.out
      rw [if_pos hc0] at this
      exact ⟨(congrArg Prod.fst this).symm, (congrArg Prod.snd this).symm⟩)
    have HRR := Lib.hid (HRz.out (by rw [HFF.out.1]; exact hc0))
    have ne3 : H + 1 ≠ w1.heap.size := by have := HnF.out; omega
    have ne4 : H + 2 ≠ w1.heap.size := by have := HnF.out; omega
    have ne5 : w1.heap.size ≠ H + 1 := by have := HnF.out; omega
    have ne6 : w1.heap.size ≠ H + 2 := by have := HnF.out; omega
    have bR := HRb.out.ext HX1.out; have y0 := bR.x0; have y1 := bR.x1; have y2 := bR.x2; have h0 := bR.f 0; have h1 := bR.f 1; have h2 := bR.f 2
    have bF := HFt.out.ext HX1.out; have z0 := bF.x0; have z1 := bF.x1; have k0 := bF.f 0; have k1 := bF.f 1
    have ne1 : H + 1 ≠ H + 2 := by omega
    have ne2 : H + 2 ≠ H + 1 := by omega
    clear HF hc0 Hz bR bF
    go_upto_region 3 with fail
    rw [HW1.out]
    clear HW1
    go_region
    go_wp2_with fail
    exact bodyPost_ret (v := .tuple #[.agg #[.int .i64 0, .int .i64 0, .slice none 0 0], .agg #[.int .i64 f0, .int .i64 f1]]) (by simp [results, Tryd.results4, go_sem, y0, y1, y2, z0, z1]) rfl ⟨⟨none, 0, 0, by rw [HFF.out.1, HFF.out.2, HRR.out.1, HRR.out.2.1], by rw [HRR.out.2.2]; exact ⟨rfl, Or.inl rfl⟩, Nat.le_refl _, by decide⟩, Below.drew (ext_only (ext_only (HEz.out) ((((Only.refl (H + 1) _).setCell _ _).setCell _ _).setCell _ _) (by have := HwH.out; omega)) (((Only.refl (H + 2) _).setCell _ _).setCell _ _) (by have := HwH.out; omega))⟩
end Go.Proofs.YthgmlhddanbbpaaDoor
namespace Go.Proofs.YthgmlhddanbbpaaDoor
open Go.RowKit

def bgO (k : Int) : Gop := ⟨4, k, [0], 1, 0, []⟩
def bgC (k : Int) : Gci := ⟨2, 0, [bgO k]⟩
theorem bg2F : lowF (bgC 2) = (0, 0) := by decide
theorem bg1F : lowF (bgC 1) = (0, 0) := by decide
theorem bg2Q : (lowM (bgC 2)).qubits = 2 := by unfold lowM; rw [bg2F]; decide
theorem bg1Q : (lowM (bgC 1)).qubits = 3 := by unfold lowM; rw [bg1F]; decide
theorem bg2L : 1 < (lowM (bgC 2)).ops.length := by unfold lowM; rw [bg2F]; decide
theorem bg1L : 1 < (lowM (bgC 1)).ops.length := by unfold lowM; rw [bg1F]; decide

theorem bg_ops {W : World} {H : Nat} {k : Int} (rI : W.heap[H]? = some (.cells #[.int .i64 0] 3 (0, 0))) (rO : W.heap[H + 1]? = some (.cells #[.int .i64 4, .int .i64 k, .slice (some ⟨H, 0, none⟩) 1 1, .int .i64 1, .int .i64 0, .slice none 0 0] 51 (0, 0))) : OpsAt W (some ⟨H + 1, 0, none⟩) 1 (bgC k).ops := by
  refine ⟨rfl, Or.inr ⟨_, _, rfl, (Array.getElem?_eq_some_iff.1 rO).1, fun t g hg => ?_⟩⟩
  have ht : t = 0 := by
    have : t < (bgC k).ops.length := (List.getElem?_eq_some_iff.1 hg).1
    have : (bgC k).ops.length = 1 := rfl
    omega
  subst ht
  have : g = bgO k := by simpa [bgC] using hg.symm
  subst this
  have I0 : IntsAt W none 0 [] := ⟨rfl, Or.inl rfl⟩
  have I1 : IntsAt W (some ⟨H, 0, none⟩) 1 [0] := by
    refine ⟨rfl, Or.inr ⟨_, _, rfl, (Array.getElem?_eq_some_iff.1 rI).1, fun t ht => ?_⟩⟩
    obtain rfl : t = 0 := by omega
    rw [cell_of_row W _ _ _ _ (0, 0) rI]; rfl
  refine ⟨_, 1, 1, none, 0, 0, ?_, ?_, ?_, ?_, ?_, ?_, ⟨I1, by omega, by omega, I0, by omega, by omega⟩⟩ <;> (rw [cell_of_row W _ _ _ _ (0, 0) rO]; rfl)
theorem bg2B : (lowM (bgC 2)).bits = 0 := by unfold lowM; rw [bg2F]; decide
theorem bg1B : (lowM (bgC 1)).bits = 0 := by unfold lowM; rw [bg1F]; decide
theorem bg2_base (H : Nat) (W : World) (hO : OpsAt W (some ⟨H + 1, 0, none⟩) 1 (bgC 2).ops) (hS : Shp W) (hbr : BruL W) : Calls Tryd.prog 4 #[.agg #[.int .i64 2, .int .i64 0, .slice (some ⟨H + 1, 0, none⟩) 1 1]] W fun e w' => ∃ (a : Option Addr) (m c' : Nat), e = .returned (.tuple #[.agg #[.int .i64 2, .int .i64 0, .slice a m c'], .agg #[.int .i64 0, .int .i64 0]]) ∧ (1 < m ∧ m ≤ c' ∧ c' ≤ 9223372036854775807) ∧ Ext W w' := by
  refine (Base_any (bgC 2) _ 1 1 W hO (by omega) (by omega) hS hbr).mono ?_
  rintro e w' ⟨⟨a, m, c', rfl, h, h1, h2⟩, hx⟩
  refine ⟨a, m, c', by rw [bg2F, bg2Q, bg2B], ⟨by rw [← h.1]; exact bg2L, h1, h2⟩, hx⟩
theorem bg1_base (H : Nat) (W : World) (hO : OpsAt W (some ⟨H + 1, 0, none⟩) 1 (bgC 1).ops) (hS : Shp W) (hbr : BruL W) : Calls Tryd.prog 4 #[.agg #[.int .i64 2, .int .i64 0, .slice (some ⟨H + 1, 0, none⟩) 1 1]] W fun e w' => ∃ (a : Option Addr) (m c' : Nat), e = .returned (.tuple #[.agg #[.int .i64 3, .int .i64 0, .slice a m c'], .agg #[.int .i64 0, .int .i64 0]]) ∧ (1 < m ∧ m ≤ c' ∧ c' ≤ 9223372036854775807) ∧ Ext W w' := by
  refine (Base_any (bgC 1) _ 1 1 W hO (by omega) (by omega) hS hbr).mono ?_
  rintro e w' ⟨⟨a, m, c', rfl, h, h1, h2⟩, hx⟩
  refine ⟨a, m, c', by rw [bg1F, bg1Q, bg1B], ⟨by rw [← h.1]; exact bg1L, h1, h2⟩, hx⟩

set_option maxRecDepth 100000 in
set_option maxHeartbeats 2000000 in
theorem lowerBegun_any (w : World) (hS : Shp w) (hbr : BruL w) : Calls Tryd.prog 7 #[] w fun e w' => e = .returned (.bool true) ∧ Ext w w' := by
  have HS := Lib.hid hS; have Hbr := Lib.hid hbr
  clear hS hbr
  obtain ⟨H, hH⟩ : ∃ H, w.heap.size = H := ⟨_, rfl⟩
  go_enter Tryd.func7, Tryd.ntmps7
  go_upto_region 2 with fail
  obtain ⟨A1, hA1⟩ : ∃ A1, w.alloc (.cells #[.int .i64 0] 3) = A1 := ⟨_, rfl⟩
  rw [hA1]
  obtain ⟨A2, hA2⟩ : ∃ A2, A1.alloc (.cells #[.int .i64 4, .int .i64 2, .slice (some ⟨H, 0, none⟩) 1 1, .int .i64 1, .int .i64 0, .slice none 0 0] 51) = A2 := ⟨_, rfl⟩
  rw [hA2]
  obtain ⟨A3, hA3⟩ : ∃ A3, A2.alloc (.cells #[.int .i64 2, .int .i64 0, .slice (some ⟨H + 1, 0, none⟩) 1 1] 24) = A3 := ⟨_, rfl⟩
  rw [hA3]
  have s1 : A1.heap.size = H + 1 := by rw [← hA1, ← hH]; simp
  have s2 : A2.heap.size = H + 1 + 1 := by rw [← hA2]; simp [s1]
  have x1 : Ext w A1 := by rw [← hA1]; exact ext_al _ _
  have x2 : Ext A1 A2 := by rw [← hA2]; exact ext_al _ _
  have x3 : Ext A2 A3 := by rw [← hA3]; exact ext_al _ _
  have r1 : A1.heap[H]? = some (.cells #[.int .i64 0] 3 (0, 0)) := by rw [← hA1, ← hH]; exact heap_alloc_new w _
  have r2 : A2.heap[H + 1]? = some (.cells #[.int .i64 4, .int .i64 2, .slice (some ⟨H, 0, none⟩) 1 1, .int .i64 1, .int .i64 0, .slice none 0 0] 51 (0, 0)) := by rw [← hA2, ← s1]; exact heap_alloc_new A1 _
  have r3 : A3.heap[H + 1 + 1]? = some (.cells #[.int .i64 2, .int .i64 0, .slice (some ⟨H + 1, 0, none⟩) 1 1] 24 (0, 0)) := by rw [← hA3, ← s2]; exact heap_alloc_new A2 _
  have R2 := (x3.block _ (Array.getElem?_eq_some_iff.1 r2).1).trans r2
  have R1 := ((x2.trans x3).block _ (Array.getElem?_eq_some_iff.1 r1).1).trans r1
  have E3 := x1.trans (x2.trans x3)
  have bC : CiB A3 (H + 1 + 1) 2 0 (some ⟨H + 1, 0, none⟩) 1 1 := ⟨r3⟩
  have HB2 := Lib.hid (bg2_base H A3 (bg_ops R1 R2) (HS.out.ext E3) (bruL_ext Hbr.out E3))
  have HR1 := Lib.hid R1; have HR2 := Lib.hid R2; have HE3 := Lib.hid E3; have HbC := Lib.hid bC; have HwH := Lib.hid hH
  have v0 := bC.x0; have v1 := bC.x1; have v2 := bC.x2
  clear hA1 hA2 hA3 s1 s2 x1 x2 x3 r1 r2 r3 R1 R2 E3 bC hH A1 A2
  go_wp2_with fail
  refine HB2.out.mono ?_
  rintro e W2 ⟨a, m, c, rfl, hm, hx2⟩
  obtain ⟨G, hG⟩ : ∃ G, W2.heap.size = G := ⟨_, rfl⟩
  have HX2 := Lib.hid hx2; have HM := Lib.hid hm
  clear hx2 hm HB2 v0 v1 v2
  go_upto_region 3 with fail
  obtain ⟨B1, hB1⟩ : ∃ B1, W2.alloc (.cells #[.int .i64 2, .int .i64 0, .slice a m c] 24) = B1 := ⟨_, rfl⟩
  rw [hB1]
  obtain ⟨B2, hB2⟩ : ∃ B2, B1.alloc (.cells #[.int .i64 0, .int .i64 0] 27) = B2 := ⟨_, rfl⟩
  rw [hB2]
  have s1 : B1.heap.size = G + 1 := by rw [← hB1, ← hG]; simp
  have y1 : Ext W2 B1 := by rw [← hB1]; exact ext_al _ _
  have y2 : Ext B1 B2 := by rw [← hB2]; exact ext_al _ _
  have b1 : CiB B1 G 2 0 a m c := ⟨by rw [← hB1, ← hG]; exact heap_alloc_new W2 _⟩
  have b2 : FtB B2 (G + 1) 0 0 := ⟨by rw [← hB2, ← s1]; exact heap_alloc_new B1 _⟩
  have hGH : H + 1 + 1 < G := by have h1 := HbC.out.lt; have h2 := HX2.out.size; omega
  have y3 : Ext A3 B2 := HX2.out.trans (y1.trans y2)
  have bC := HbC.out.ext y3
  have R1 := (y3.block _ (Array.getElem?_eq_some_iff.1 HR1.out).1).trans HR1.out
  have R2 := (y3.block _ (Array.getElem?_eq_some_iff.1 HR2.out).1).trans HR2.out
  have b1' := b1.ext y2
  obtain ⟨C, hC⟩ : ∃ C, B2.setCell ⟨H + 1, 1, none⟩ (.int .i64 1) = C := ⟨_, rfl⟩
  have on : Only (H + 1) B2 C := by rw [← hC]; exact (Only.refl _ _).setCell _ _
  have Q1 := (on.block H (by omega)).trans R1
  have Q2 : C.heap[H + 1]? = some (.cells #[.int .i64 4, .int .i64 1, .slice (some ⟨H, 0, none⟩) 1 1, .int .i64 1, .int .i64 0, .slice none 0 0] 51 (0, 0)) := by rw [← hC]; exact heap_setCell_same B2 (H + 1) 1 _ _ (.int .i64 1) R2
  have bC' : CiB C (H + 1 + 1) 2 0 (some ⟨H + 1, 0, none⟩) 1 1 := ⟨(on.block _ (by omega)).trans bC.row⟩
  have b3 : CiB C G 2 0 a m c := ⟨(on.block _ (by omega)).trans b1'.row⟩
  have b4 : FtB C (G + 1) 0 0 := ⟨(on.block _ (by omega)).trans b2.row⟩
  have E4 : Ext w C := ext_only (HE3.out.trans y3) on (by have := HwH.out; omega)
  have HB1 := Lib.hid (bg1_base H C (bg_ops Q1 Q2) (HS.out.ext E4) (bruL_ext Hbr.out E4))
  have Hb3 := Lib.hid b3; have Hb4 := Lib.hid b4; have HE4 := Lib.hid E4; have HbD := Lib.hid bC'
  have v2 := bC.x2
  have z1 : B2.cell? ⟨H + 1, 0 + 0 * 6 + 1, none⟩ = some (.int .i64 2) := by rw [cell_of_row B2 _ _ _ _ (0, 0) R2]; rfl
  have z2 := z1
  simp only [Nat.zero_mul, Nat.zero_add] at z2
  have f1 : B2.frozen? ⟨H + 1, 1, none⟩ = false := frozen_of_row B2 _ _ _ _ R2
  have HC := Lib.hid hC
  clear hB1 hB2 s1 y1 y2 b1 b2 hGH y3 bC R1 R2 b1' hC on Q1 Q2 bC' b3 b4 E4 HR1 HR2 HE3 HbC HX2 B1 hG W2
  go_upto_region 4 with fail
  rw [HC.out]
  clear v2 z1 z2 f1 HC
  have v0 := HbD.out.x0; have v1 := HbD.out.x1; have v2 := HbD.out.x2
  go_wp2_with fail
  refine HB1.out.mono ?_
  rintro e W5 ⟨a', m', c', rfl, hm, hx5⟩
  obtain ⟨J, hJ⟩ : ∃ J, W5.heap.size = J := ⟨_, rfl⟩
  have HX5 := Lib.hid hx5; have HM' := Lib.hid hm
  clear hx5 hm HB1 v0 v1 v2
  go_upto_region 5 with fail
  obtain ⟨B3, hB3⟩ : ∃ B3, W5.alloc (.cells #[.int .i64 3, .int .i64 0, .slice a' m' c'] 24) = B3 := ⟨_, rfl⟩
  rw [hB3]
  obtain ⟨B4, hB4⟩ : ∃ B4, B3.alloc (.cells #[.int .i64 0, .int .i64 0] 27) = B4 := ⟨_, rfl⟩
  rw [hB4]
  have s1 : B3.heap.size = J + 1 := by rw [← hB3, ← hJ]; simp
  have y1 : Ext W5 B3 := by rw [← hB3]; exact ext_al _ _
  have y2 : Ext B3 B4 := by rw [← hB4]; exact ext_al _ _
  have b1 : CiB B4 J 3 0 a' m' c' := CiB.ext ⟨by rw [← hB3, ← hJ]; exact heap_alloc_new W5 _⟩ y2
  have b2 : FtB B4 (J + 1) 0 0 := ⟨by rw [← hB4, ← s1]; exact heap_alloc_new B3 _⟩
  have y3 := HX5.out.trans (y1.trans y2)
  have b3 := Hb3.out.ext y3; have b4 := Hb4.out.ext y3
  have HE := Lib.hid (HE4.out.trans y3)
  have g0 := b1.x0; have g2 := b1.x2; have g3 := b2.x0; have k0 := b3.x0; have k2 := b3.x2; have k3 := b4.x0
  have q1 : (1 : Int) < (m : Int) := by have := HM.out.1; omega
  have q2 : (1 : Int) < (m' : Int) := by have := HM'.out.1; omega
  clear hB3 hB4 s1 y1 y2 b1 b2 y3 b3 b4 hJ B3
  go_wp2_with fail
  go_ret
  exact ⟨rfl, HE.out⟩
end Go.Proofs.YthgmlhddanbbpaaDoor
namespace Go.Proofs.YthgmlhddanbbpaaDoor
open Go.RowKit

set_option maxHeartbeats 1000000 in
theorem sameInts_any (l : List Int) (a1 : Option Addr) (n c1 : Nat) (a2 : Option Addr) (c2 : Nat) (w : World) (h1 : IntsAt w a1 n l) (h2 : IntsAt w a2 n l) (hc1 : n ≤ c1) (hm1 : c1 ≤ 9223372036854775807) :
    Calls Tryd.prog 9 #[.slice a1 n c1, .slice a2 n c2] w fun e w' => e = .returned (.bool true) ∧ Ext w w' := by
  have H1 := Lib.hid h1; have H2 := Lib.hid h2
  clear h1 h2
  go_enter Tryd.func9, Tryd.ntmps9
  go_wp2_with fail
  go_loopg [5] n (fun kk s5 wx => ∃ i : Nat, s5 = .int .i64 (i : Int) ∧ i ≤ n ∧ n - i = kk ∧ Ext w wx)
  case atStart => exact ⟨0, rfl, by omega, by omega, Ext.refl w⟩
  case round =>
    obtain ⟨i, rfl, hi1, hk, hE⟩ := hrel
    have HE := Lib.hid hE
    by_cases hin : i = n
    · have h2 : ¬ (i : Int) < (n : Int) := by omega
      clear hE
      go_wp2_with fail
      go_ret
      exact ⟨rfl, HE.out⟩
    · have h2 : (i : Int) < (n : Int) := by omega
      have h0 : (0 : Int) ≤ (i : Int) := by omega
      obtain ⟨b1, o1, rfl, hb1, hc1'⟩ := (H1.out.ext hE).at (by omega)
      obtain ⟨b2, o2, rfl, hb2, hc2'⟩ := (H2.out.ext hE).at (by omega)
      have e1 := hc1' i (by omega); have e2 := hc2' i (by omega)
      obtain ⟨x, hx⟩ : ∃ x, l.getD i 0 = x := ⟨_, rfl⟩
      rw [hx] at e1 e2
      have HEd := Lib.hid (cdrew hE)
      clear hE hc1' hc2' hx
      go_wp2_with fail
      go_region
      go_wp2_with fail
      go_roundg (n - (i + 1))
      case measure => omega
      case rel => exact ⟨i + 1, by go_num, by omega, rfl, HEd.out⟩

end Go.Proofs.YthgmlhddanbbpaaDoor
namespace Go.Proofs.YthgmlhddanbbpaaDoor
open Go.RowKit

theorem lowA_mts {n B : Int} : ∀ (l : List Gop), (∀ g ∈ l, opCode g n B = 0) → mts (lowA n l) = mts l
  | [], _ => by simp [lowA, mts]
  | g :: r, h => by
    have ih := lowA_mts r (fun x hx => h x (by simp [hx]))
    have e : lowA n (g :: r) = lowO n g ++ lowA n r := by simp [lowA]
    rw [e, mts_append, low_mts (h g (by simp)), ih]
    unfold mts; simp
theorem lowF_zero {c : Gci} (h : (lowF c).1 = 0) : lowF c = (0, 0) ∧ (chk c).1 = 0 ∧ (c.ops.length : Int) + 220 * cntP hasC c.ops ≤ 4096 ∧ c.qubits + mwN c.ops ≤ 12 := by
  unfold lowF at h ⊢
  by_cases h1 : (chk c).1 ≠ 0
  · rw [if_pos h1] at h; exact absurd h h1
  rw [if_neg h1] at h ⊢
  by_cases h2 : 4096 < (c.ops.length : Int) + 220 * cntP hasC c.ops
  · rw [if_pos h2] at h; exact absurd h (by decide)
  rw [if_neg h2] at h ⊢
  by_cases h3 : 12 < c.qubits + mwN c.ops
  · rw [if_pos h3] at h; exact absurd h (by decide)
  rw [if_neg h3]
  exact ⟨rfl, by simpa using h1, by omega, by omega⟩
/-- What Base answers where there is no fault. -/
theorem low_good {c : Gci} (h : (lowF c).1 = 0) : chk (lowM c) = (0, 0) ∧ (∀ g ∈ (lowM c).ops, isBas g = true) ∧ ((lowM c).ops.length : Int) ≤ (c.ops.length : Int) + 220 * cntP hasC c.ops ∧ mts (lowM c).ops = mts c.ops ∧ (lowM c).qubits = c.qubits + mwN c.ops ∧ (lowM c).bits = c.bits ∧ (c.ops.length : Int) + 220 * cntP hasC c.ops ≤ 4096 ∧ c.qubits + mwN c.ops ≤ 12 ∧ 1 ≤ c.qubits := by
  obtain ⟨_, hc, hs, hq⟩ := lowF_zero h
  obtain ⟨_, h1, h2, h3, h4, h5, h6⟩ := chk_zero hc
  unfold lowM
  rw [if_pos h]
  simp only
  have hl := lowA_len h2 c.ops h6
  have hok : ∀ g ∈ lowA c.qubits c.ops, LOk (c.qubits + mwN c.ops) c.bits g := by
    intro g hg
    unfold lowA at hg
    obtain ⟨o, ho, hgo⟩ := List.mem_flatMap.1 hg
    have := mwN_le c.ops o ho
    exact low_ok (h6 o ho) (by omega) (by omega) g hgo
  refine ⟨?_, fun g hg => (hok g hg).bas, hl, lowA_mts c.ops h6, trivial, trivial, hs, hq, h1⟩
  unfold chk
  simp only
  rw [if_neg (by omega), if_neg (by omega), if_neg (by omega)]
  exact opsCode_none _ 0 (fun g hg => (hok g hg).code)
end Go.Proofs.YthgmlhddanbbpaaDoor
namespace Go.Proofs.YthgmlhddanbbpaaDoor
variable {Qc : Nat → Prop}
open Go.RowKit

theorem zero_sub_iff {x y z : Nm} (hz : Anti z.a) (h : EqN z (nAdd x (nNeg y))) : (zeroN fun i : Nat => z.a i) ↔ EqN x y := by
  have h1 := h.zero
  have h2 : (∀ k, (nAdd x (nNeg y)).a k = 0) ↔ EqN x y := by
    constructor
    · intro h3 k
      have := h3 k
      simp only [nAdd, nNeg, negR] at this
      grind
    · intro h3 k
      have := h3 k
      simp only [nAdd, nNeg, negR]
      grind
  rw [← h2, ← h1]
  exact ⟨zero_of_zeroN hz, fun h3 i _ => h3 i⟩

set_option maxRecDepth 100000 in
set_option maxHeartbeats 4000000 in
theorem QSame_nm (ca cb : Array Value) (x y : Nm) (P E : Nat) (w : World) (h1 : RmA Qc w ca x P E) (h2 : RmA Qc w cb y P E) (hP : P + E + 1 ≤ 400000) (hE : E ≤ 10000) (hL : LimQ Qc w) (B : Bool) (hB : B = true ↔ EqN x y) :
    Calls Tryd.prog 10 #[.agg ca, .agg cb] w fun r w' => r = .returned (.bool B) ∧ Ext w w' := by
  obtain ⟨H, hH⟩ : ∃ H, w.heap.size = H := ⟨_, rfl⟩
  obtain ⟨U, hU⟩ : ∃ U, (w.alloc (.cells ca 43)).alloc (.cells cb 43) = U := ⟨_, rfl⟩
  have E0 : Ext w U := by rw [← hU]; exact (Ext.alloc _ _).trans (Ext.alloc _ _)
  have rA : U.heap[H]? = some (.cells ca 43 (0, 0)) := by rw [← hU, ← hH]; exact ((Ext.alloc _ _).block _ (Array.getElem?_eq_some_iff.1 (heap_alloc_new w (.cells ca 43))).1).trans (heap_alloc_new w _)
  have rB : U.heap[H + 1]? = some (.cells cb 43 (0, 0)) := by
    have h3 := heap_alloc_new (w.alloc (.cells ca 43)) (.cells cb 43)
    rw [← hU, ← hH]
    simpa using h3
  have iA := h1.info; have iB := h2.info
  have HS := Lib.hid (QSub_nm ca cb x y P E U (h1.ext E0) (h2.ext E0) hP hE (hL.grow E0.size))
  have HU := Lib.hid hU; have HH := Lib.hid hH; have HE0 := Lib.hid E0; have HB := Lib.hid hB
  clear hU hH E0 h1 h2 hP hE hB
  go_enter Tryd.func10, Tryd.ntmps10
  go_upto_region 1 with fail
  rw [HU.out, HH.out]
  clear HU
  go_wp2_with (first
    | refine wpList_load_row rfl 43 _ rfl (H) rfl 43 _ (0, 0) _ rA Tryd.underlying43 rfl iA ?_
    | refine wpList_load_row rfl 43 _ rfl (H + 1) rfl 43 _ (0, 0) _ rB Tryd.underlying43 rfl iB ?_)
  refine HS.out.mono ?_
  rintro r w1 ⟨cr, z, rfl, hz, hq, hx1⟩
  have HZ := Lib.hid (QZero_any cr _ _ w1 hz.val B (by rw [HB.out]; exact (zero_sub_iff hz.anti hq).symm))
  have HE1 := Lib.hid (HE0.out.trans hx1)
  clear hz hq hx1 HS HE0 rA rB iA iB
  go_wp2_with fail
  refine HZ.out.mono ?_
  rintro r w2 ⟨rfl, hx2⟩
  have HE2 := Lib.hid (HE1.out.trans hx2)
  clear hx2 HE1 HZ
  go_wp2_with fail
  go_ret
  exact ⟨rfl, HE2.out⟩
end Go.Proofs.YthgmlhddanbbpaaDoor
namespace Go.Proofs.YthgmlhddanbbpaaDoor
open Go.RowKit

theorem bas_sup {n : Int} {x : Nat} (hx : x < 2 ^ n.toNat) : Sup n (bas x) := fun j y hj hb => by
  unfold bas
  by_cases e : y = x
  · exfalso
    subst e
    have h1 : 2 ^ j.toNat ≤ y := Nat.ge_two_pow_of_testBit hb
    have h2 : 2 ^ n.toNat ≤ 2 ^ j.toNat := Nat.pow_le_pow_right (by decide) (by omega)
    omega
  · rw [if_neg e]
theorem sup_zero {n : Int} (h0 : 0 ≤ n) {s : Nat → Nm} (h : Sup n s) {y : Nat} (hy : 2 ^ n.toNat ≤ y) : s y = nZ := by
  by_cases e : ∃ j : Nat, n.toNat ≤ j ∧ y.testBit j = true
  · obtain ⟨j, h1, h2⟩ := e
    exact h (j : Int) y (by omega) h2
  · exfalso
    have : y < 2 ^ n.toNat := Nat.lt_pow_two_of_testBit y (fun i hi => by
      by_cases g : y.testBit i = true
      · exact absurd ⟨i, hi, g⟩ e
      · simpa using g)
    omega
theorem keeps_both {c : Gci} (h : (lowF c).1 = 0) {x : Int} (h0 : 0 ≤ x) (hx : x < ((2 ^ c.qubits.toNat : Nat) : Int)) (want : List Int) :
    (shoF (lowM c) x want).1 = (shoF c x want).1 ∧ (shoR (lowM c) x want).s = (shoR c x want).s ∧ (shoR (lowM c) x want).bits = (shoR c x want).bits ∧ (shoR (lowM c) x want).u = (shoR c x want).u ∧ (∀ y, 2 ^ c.qubits.toNat ≤ y → (shoR c x want).s y = nZ) ∧ (shoR c x want).bits.length ≤ 12 := by
  obtain ⟨g1, _, _, _, g5, g6, _, g8, g9⟩ := low_good h
  obtain ⟨_, hc, _, hq⟩ := lowF_zero h
  obtain ⟨hcc, h1, h2, h3, h4, h5, h6⟩ := chk_zero hc
  have hM : lowM c = ⟨c.qubits + mwN c.ops, c.bits, lowA c.qubits c.ops⟩ := by unfold lowM; rw [if_pos h]
  have hxn : x.toNat < 2 ^ c.qubits.toNat := by omega
  have hop : ∀ o ∈ c.ops, opCode o c.qubits c.bits = 0 ∧ c.qubits + wnt o ≤ 12 := fun o ho => ⟨h6 o ho, by have := mwN_le c.ops o ho; omega⟩
  obtain ⟨hA, hS⟩ := low_shot (n := c.qubits) (B := c.bits) h1 h3 h4 want c.ops 0 0 (bas x.toNat) (List.replicate c.bits.toNat 0) 0 hop (fun y => ⟨(bas_amp x.toNat y).low, (bas_amp x.toNat y).anti⟩) (bas_sup hxn)
  have e1 : shoR (lowM c) x want = plM want (lowA c.qubits c.ops) 0 (bas x.toNat) (List.replicate c.bits.toNat 0) 0 := by rw [hM]; rfl
  have e2 : shoR c x want = plM want c.ops 0 (bas x.toNat) (List.replicate c.bits.toNat 0) 0 := rfl
  rw [← e1, ← e2] at hA
  rw [← e2] at hS
  have s1 : stF c x = (0, 0) := by unfold stF; rw [hcc, if_neg (by decide), if_neg (by omega)]
  have s2 : stF (lowM c) x = (0, 0) := by
    unfold stF
    have hpw : 2 ^ c.qubits.toNat ≤ 2 ^ (lowM c).qubits.toNat := Nat.pow_le_pow_right (by decide) (by have := g5; omega)
    rw [g1, if_neg (by decide), if_neg (by omega)]
  have f1 : shoF c x want = (shoR c x want).f := by unfold shoF; rw [s1, if_neg (by decide)]
  have f2 : shoF (lowM c) x want = (shoR (lowM c) x want).f := by unfold shoF; rw [s2, if_neg (by decide)]
  refine ⟨by rw [f1, f2]; exact hA.f, hA.s, hA.bits, hA.u, fun y hy => sup_zero (by omega) hS hy, ?_⟩
  rw [e2, plM_bits, List.length_replicate]
  omega
/-- A whole struct is loaded, in a region that draws its order. -/
theorem quiet_load_mid {C : World → Prop} {o : Oper} {a : Act} {K : Act → Prop} {cl : List Value} (h : ∀ w, C w → (execOp a.eval o).run Tryd.prog w = .ok (.value (.agg cl.toArray)) w) (hk : K (a.put o.dst (.agg cl.toArray))) : o.quiet Tryd.prog a C K :=
  ⟨_, fun w hw => by unfold Oper.quietAt; rw [h w hw]; exact ⟨rfl, rfl⟩, hk⟩
/-- .. and in a plain region, behind a guard. -/
theorem wpList_load_midQ {ops : Array Oper} {rest : List Oper} {o : Oper} {a : Act} {w : World} {Q : Exit → Act → World → Prop} (hw : Region.wanted o (yielded ops a.tmps) = true) (ty : TypeId) (x : Operand) (ho : o.op = .load ty x)
    (b off : Nat) (hx : a.eval x = .pointer (some ⟨b, off, none⟩)) (cs : List Value) (d : TypeDesc) (hc : w.rangeAt b off cs)
    (hu : Tryd.prog.underlying ty = some d) (hd : d.isRow = true) (hi : (Tryd.prog.info? ty).map (·.size) = some cs.length)
    (h : wpList Tryd.prog ops Q rest (a.put o.dst (.agg cs.toArray)) w) : wpList Tryd.prog ops Q (o :: rest) a w := by
  unfold wpList
  rw [if_pos hw]
  exact Or.inl (wp_load_mid ty x ho b off hx cs d hc hu hd hi h)
end Go.Proofs.YthgmlhddanbbpaaDoor
namespace Go.Proofs.YthgmlhddanbbpaaDoor
open Go.RowKit

set_option maxHeartbeats 8000000 in
set_option maxRecDepth 100000 in
theorem keeps_walk (c : Gci) (ao : Option Addr) (n cp : Nat) (x : Int) (ta : Option Addr) (tn tc : Nat) (want : List Int) (w : World) (h : OpsAt w ao n c.ops) (hn : n ≤ cp) (hcp : cp ≤ 9223372036854775807) (hbn : n * 80 ≤ 140737488355328) (hbl : ∀ g ∈ c.ops, g.ctl.length * 8 ≤ 140737488355328 ∧ g.cnd.length * 8 ≤ 140737488355328)
    (hI : IntsAt w ta tn want) (hS : Shp w) (hbr : BruL w) :
    Calls Tryd.prog 3 #[.agg #[.int .i64 c.qubits, .int .i64 c.bits, .slice ao n cp], .int .i64 x, .slice ta tn tc] w fun e w' => e = .returned (.bool true) ∧ Ext w w' := by
  have hmx : ∀ {k : Nat}, k ≤ maxLen → k ≤ 9223372036854775807 := fun h => h
  have HG := Lib.hid (low_good (c := c)); have HF0 := Lib.hid (lowF_zero (c := c))
  have HKb := Lib.hid (fun (h : (lowF c).1 = 0) (y : Int) (h0 : 0 ≤ y) (hy : y < ((2 ^ c.qubits.toNat : Nat) : Int)) => keeps_both h h0 hy want)
  obtain ⟨F, hF⟩ : ∃ F, lowF c = F := ⟨_, rfl⟩
  obtain ⟨F0, F1⟩ := F
  obtain ⟨M, hM⟩ : ∃ M, lowM c = M := ⟨_, rfl⟩
  obtain ⟨Aa, hA⟩ : ∃ Aa : Int, (if F0 = 0 then (mwN c.ops : Int) else 0) = Aa := ⟨_, rfl⟩
  have HCp := Lib.hid (fun wx (hx : Ext w wx) => CopyCircuit_any c ao n cp wx (h.ext hx) hbn hbl)
  have HBa := Lib.hid (fun wx (hx : Ext w wx) a' c' (hO : OpsAt wx a' n c.ops) (h1 : n ≤ c') (h2 : c' ≤ maxLen) => Base_any c a' n c' wx hO h1 (hmx h2) (hS.ext hx) (bruL_ext hbr hx))
  have HLf := Lib.hid (fun wx (hx : Ext w wx) => LowerFault_any c ao n cp wx (h.ext hx) hn hcp)
  have HBg := Lib.hid (fun wx (hx : Ext w wx) => lowerBegun_any wx (hS.ext hx) (bruL_ext hbr hx))
  have HP1 := Lib.hid (fun wx (hx : Ext w wx) (y : Int) => QPlay_all c ao n cp y ta tn tc want wx (h.ext hx) hn hcp (hI.ext hx))
  have HP2 := Lib.hid (fun wx (hx : Ext w wx) a' m' c' (hO : OpsAt wx a' m' M.ops) (h1 : m' ≤ c') (h2 : c' ≤ 9223372036854775807) (y : Int) => QPlay_all M a' m' c' y ta tn tc want wx hO h1 h2 (hI.ext hx))
  rw [hF, hM] at HBa HG
  rw [hF] at HLf HF0 HKb
  rw [hM] at HKb
  simp only [hA] at HLf
  clear hF hM hA h hS hbr hbn hbl HF0 hI
  obtain ⟨qb, bi, ops⟩ := c
  obtain ⟨Mq, Mb, Mo⟩ := M
  simp only at HCp HBa HLf HG HKb HP1 HP2 ⊢
  have EC := ext_al w (.cells #[.int .i64 qb, .int .i64 bi, .slice ao n cp] 24)
  have bC : CiB (w.alloc (.cells #[.int .i64 qb, .int .i64 bi, .slice ao n cp] 24)) w.heap.size qb bi ao n cp := ⟨heap_alloc_new w _⟩
  obtain ⟨H, hH⟩ : ∃ H, w.heap.size = H := ⟨_, rfl⟩
  obtain ⟨W0, hW0⟩ : ∃ W0, w.alloc (.cells #[.int .i64 qb, .int .i64 bi, .slice ao n cp] 24) = W0 := ⟨_, rfl⟩
  rw [hW0] at EC bC
  rw [hH] at bC
  have HE0 := Lib.hid EC; have HC0 := Lib.hid bC; have HW0 := Lib.hid hW0
  clear EC bC hW0
  go_enter Tryd.func3, Tryd.ntmps3
  go_upto_region 1 with fail
  rw [HW0.out]
  clear HW0 hH
  have d0 := HC0.out.x0; have d1 := HC0.out.x1; have d2 := HC0.out.x2
  go_wp2_with fail
  refine (HCp.out _ HE0.out).mono ?_
  rintro e w1 ⟨⟨a1, c1, rfl, m1, x1, K1⟩, hx1⟩
  have HE1 := Lib.hid (HE0.out.trans hx1); have HC1 := Lib.hid (HC0.out.ext hx1); have HK1 := Lib.hid K1
  have Hm1 := Lib.hid m1; have Hx1 := Lib.hid x1
  clear d0 d1 d2 K1 hx1 HE0 HC0 HCp m1 x1
  go_wp2_with fail
  refine (HBa.out w1 HE1.out a1 c1 HK1.out Hm1.out Hx1.out).mono ?_
  rintro e w2 ⟨⟨a2, m2, c2, rfl, K2, m22, x2⟩, hx2⟩
  obtain ⟨G2, hG2⟩ : ∃ G, w2.heap.size = G := ⟨_, rfl⟩
  obtain ⟨V2, hV2⟩ : ∃ V2, w2.alloc (.cells #[.int .i64 Mq, .int .i64 Mb, .slice a2 m2 c2] 24) = V2 := ⟨_, rfl⟩
  obtain ⟨W2, hW2⟩ : ∃ W2, V2.alloc (.cells #[.int .i64 F0, .int .i64 F1] 27) = W2 := ⟨_, rfl⟩
  have s2 : V2.heap.size = G2 + 1 := by rw [← hV2, ← hG2]; simp
  have y1 : Ext w2 V2 := by rw [← hV2]; exact ext_al _ _
  have y2 : Ext V2 W2 := by rw [← hW2]; exact ext_al _ _
  have y3 := hx2.trans (y1.trans y2)
  have HE2 := Lib.hid (HE1.out.trans y3); have HC2 := Lib.hid (HC1.out.ext y3)
  have HM2 := Lib.hid (show CiB W2 G2 Mq Mb a2 m2 c2 from CiB.ext ⟨by rw [← hV2, ← hG2]; exact heap_alloc_new w2 _⟩ y2)
  have HF2 := Lib.hid (show FtB W2 (G2 + 1) F0 F1 from ⟨by rw [← hW2, ← s2]; exact heap_alloc_new V2 _⟩)
  have HK2 := Lib.hid (K2.ext (y1.trans y2)); have Hm2 := Lib.hid m22; have Hx2 := Lib.hid x2
  have HV2 := Lib.hid hV2; have HW2 := Lib.hid hW2
  clear K2 hx2 y1 y2 y3 s2 hV2 hW2 HE1 HC1 HBa HK1 m22 x2
  go_upto_region 2 with fail
  rw [HV2.out, HW2.out]
  clear HW2 HV2 hG2
  have d0 := HC2.out.x0; have d1 := HC2.out.x1; have d2 := HC2.out.x2
  go_wp2_with fail
  refine (HLf.out W2 HE2.out).mono ?_
  rintro e w3 ⟨rfl, hx3⟩
  obtain ⟨G3, hG3⟩ : ∃ G, w3.heap.size = G := ⟨_, rfl⟩
  obtain ⟨W3, hW3⟩ : ∃ W3, w3.alloc (.cells #[.int .i64 F0, .int .i64 F1] 27) = W3 := ⟨_, rfl⟩
  have y1 : Ext w3 W3 := by rw [← hW3]; exact ext_al _ _
  have y3 := hx3.trans y1
  have HE3 := Lib.hid (HE2.out.trans y3); have HC3 := Lib.hid (HC2.out.ext y3)
  have HM3 := Lib.hid (HM2.out.ext y3); have HF3 := Lib.hid (HF2.out.ext y3); have HKM := Lib.hid (HK2.out.ext y3)
  have HG3 := Lib.hid (show FtB W3 G3 F0 F1 from ⟨by rw [← hW3, ← hG3]; exact heap_alloc_new w3 _⟩)
  have HW3 := Lib.hid hW3
  clear d0 d1 d2 hx3 y1 y3 hW3 HE2 HC2 HLf HM2 HF2 HK2
  go_upto_region 3 with fail
  rw [HW3.out]
  clear HW3 hG3
  go_wp2_with fail
  refine (HBg.out W3 HE3.out).mono ?_
  rintro e w4 ⟨rfl, hx4⟩
  have bF := HF3.out.ext hx4; have bG := HG3.out.ext hx4
  have f0 := bF.x0; have f1 := bF.x1; have g0 := bG.x0; have g1 := bG.x1
  have HE4 := Lib.hid (HE3.out.trans hx4); have HC4 := Lib.hid (HC3.out.ext hx4); have HM4 := Lib.hid (HM3.out.ext hx4); have HK4 := Lib.hid (HKM.out.ext hx4)
  clear bF bG hx4 HE3 HC3 HM3 HKM HBg HF3 HG3
  go_upto_region 5 with fail
  clear f0 f1 g1
  by_cases hz : F0 = 0
  · have u0 := HM4.out.x0; have u2 := HM4.out.x2
    obtain ⟨hchk, hbas, hlen, hmts, hMq, hMb, hsum, hq12, hq1⟩ := HG.out hz
    obtain ⟨mq, hmq⟩ : ∃ mq : Nat, Mq = (mq : Int) := ⟨Mq.toNat, by omega⟩
    obtain ⟨qn, hqn⟩ : ∃ qn : Nat, qb = (qn : Int) := ⟨qb.toNat, by omega⟩
    have Hqq := Lib.hid (show qn ≤ mq ∧ mq ≤ 12 by have := hMq; omega)
    subst hz hmq hqn
    clear hchk hbas hlen hmts HG hMq hMb hsum hq12 hq1
    have hqz : (0 : Int) ≤ (mq : Int) := by omega
    go_cut [49] from 38 to 49 (fun s49 wx => w4 = wx ∧ ∃ B : Bool, s49 = .bool B)
    case first =>
      go_wp2_with fail
      go_meet
      exact ⟨rfl, _, rfl⟩
    case rest =>
      obtain ⟨rfl, B, rfl⟩ := hcut
      cases B
      case true =>
        clear hqz u0 u2
        go_wp2_with fail
        go_ret
        exact ⟨rfl, HE4.out⟩
      case false =>
      clear hqz u0 u2 g0
      have HKb2 := Lib.hid (HKb.out rfl)
      simp only [Int.toNat_natCast] at HKb2 HP1 HP2
      obtain ⟨m, hm⟩ : ∃ m : Nat, 2 ^ qn = m := ⟨_, rfl⟩
      obtain ⟨mw, hmw⟩ : ∃ mw : Nat, 2 ^ mq = mw := ⟨_, rfl⟩
      have Hmm := Lib.hid (show m ≤ mw ∧ mw ≤ 4096 ∧ 0 < m by
        have h1 := Hqq.out
        rw [← hm, ← hmw]
        exact ⟨Nat.pow_le_pow_right (by decide) h1.1, Nat.le_trans (Nat.pow_le_pow_right (by decide) h1.2) (by decide), Nat.pow_pos (by decide)⟩)
      have hs := shl1 (q := qn) (by have := Hqq.out; omega)
      rw [hm] at hs HKb2 HP1
      rw [hmw] at HP2
      clear hm hmw HKb
      obtain ⟨d, hd⟩ : ∃ d : Bool, decide (x < 0 ∨ (m : Int) ≤ x) = d := ⟨_, rfl⟩
      have Hd := Lib.hid hd
      clear hd
      go_upto_region 7 with fail
      have d0 := HC4.out.x0
      have hqz : (0 : Int) ≤ (qn : Int) := by omega
      go_cut [58] from 50 to 58 (fun s58 wx => w4 = wx ∧ s58 = .bool d)
      case first =>
        by_cases h1 : x < 0
        · have hdd : d = true := by rw [← Hd.out]; exact decide_eq_true (Or.inl h1)
          subst hdd
          go_wp2_with fail
          go_meet
          exact ⟨rfl, rfl⟩
        · by_cases h2 : (m : Int) ≤ x
          · have hdd : d = true := by rw [← Hd.out]; exact decide_eq_true (Or.inr h2)
            subst hdd
            go_wp2_with fail
            go_meet
            exact ⟨rfl, rfl⟩
          · have hdd : d = false := by rw [← Hd.out]; exact decide_eq_false (by omega)
            have h3 : x < (m : Int) := by omega
            subst hdd
            go_wp2_with fail
            go_meet
            exact ⟨rfl, rfl⟩
      case rest =>
        obtain ⟨rfl, rfl⟩ := hcut
        clear hs d0 hqz
        go_upto_if 58 with fail
        go_cut [1] from 50 to 58 (fun s1 wx => w4 = wx ∧ ∃ y : Int, s1 = .int .i64 y ∧ 0 ≤ y ∧ y < (m : Int))
        case first =>
          cases d
          · have h1 : 0 ≤ x ∧ x < (m : Int) := by have := of_decide_eq_false Hd.out; omega
            have H1 := Lib.hid h1
            clear h1
            go_wp2_with fail
            go_meet
            exact ⟨rfl, x, rfl, H1.out.1, H1.out.2⟩
          · go_wp2_with fail
            go_meet
            exact ⟨rfl, 0, rfl, Int.le_refl 0, by have := Hmm.out; omega⟩
        case rest =>
          obtain ⟨rfl, y, rfl, hy0, hy1⟩ := hcut
          obtain ⟨hf, hss, hbb, huu, hzz, hb12⟩ := HKb2.out y hy0 hy1
          clear Hd HKb2 hy0 hy1
          have HPa := Lib.hid (fun wx (hx : Ext w wx) => HP1.out wx hx y); have HPb := Lib.hid (fun wx (hx : Ext w wx) a' m' c' (hO : OpsAt wx a' m' Mo) (h1 : m' ≤ c') (h2 : c' ≤ 9223372036854775807) => HP2.out wx hx a' m' c' hO h1 h2 y)
          clear HP1 HP2
          obtain ⟨⟨k0, k1⟩, hk⟩ : ∃ k, shoF ⟨(qn : Int), bi, ops⟩ y want = k := ⟨_, rfl⟩
          obtain ⟨⟨l0, l1⟩, hl⟩ : ∃ l, shoF ⟨(mq : Int), Mb, Mo⟩ y want = l := ⟨_, rfl⟩
          obtain ⟨S1, hS1⟩ : ∃ S, shoR ⟨(qn : Int), bi, ops⟩ y want = S := ⟨_, rfl⟩
          obtain ⟨S2, hS2⟩ : ∃ S, shoR ⟨(mq : Int), Mb, Mo⟩ y want = S := ⟨_, rfl⟩
          rw [hk] at hf HPa
          rw [hl] at hf HPb
          rw [hS1] at hss hbb huu hzz hb12 HPa
          rw [hS2] at hss hbb huu HPb
          have hf' : l0 = k0 := hf
          subst hf'
          obtain ⟨sf, ss, sb, su⟩ := S1
          obtain ⟨tf, ts, tb, tu⟩ := S2
          simp only at hss hbb huu hzz hb12 HPa HPb
          subst hss hbb huu
          have Hzz := Lib.hid hzz; have Hb12 := Lib.hid hb12
          clear hf hk hl hS1 hS2 hzz hb12
          have d0 := HC4.out.x0; have d1 := HC4.out.x1; have d2 := HC4.out.x2
          go_upto_region 9 with fail
          by_cases hl0 : l0 = 0
          · subst hl0
            go_wp2_with fail
            refine (HPa.out w4 HE4.out).mono ?_
            rintro e w5 ⟨r0, r1, r2, rfl, hx5, hpg, -⟩
            obtain ⟨b1, g1, rfl, rfl, rfl, hp1⟩ := hpg (by trivial)
            obtain ⟨G5, hG5⟩ : ∃ G, w5.heap.size = G := ⟨_, rfl⟩
            obtain ⟨W5, hW5⟩ : ∃ W, w5.alloc (.cells #[.int .i64 0, .int .i64 k1] 27) = W := ⟨_, rfl⟩
            have y1 : Ext w5 W5 := by rw [← hW5]; exact ext_al _ _
            have y3 := hx5.trans y1
            have HE5 := Lib.hid (HE4.out.trans y3); have HM5 := Lib.hid (HM4.out.ext y3); have HK5 := Lib.hid (HK4.out.ext y3)
            have HF5 := Lib.hid (show FtB W5 G5 0 k1 from ⟨by rw [← hW5, ← hG5]; exact heap_alloc_new w5 _⟩)
            have HR5 := Lib.hid ((hp1.st.wide (Q' := fun _ => True) (fun _ _ => trivial)).ext y1); have HI5 := Lib.hid ((hp1.ints rfl).ext y1)
            have HW5 := Lib.hid hW5
            clear hp1 hpg hx5 y1 y3 hW5 HE4 HM4 HK4 HPa d0 d1 d2 HC4
            go_upto_region 10 with fail
            rw [HW5.out]
            clear HW5 hG5
            have d0 := HM5.out.x0; have d1 := HM5.out.x1; have d2 := HM5.out.x2
            go_wp2_with fail
            refine (HPb.out W5 HE5.out a2 m2 c2 HK5.out Hm2.out Hx2.out).mono ?_
            rintro e w6 ⟨r0, r1, r2, rfl, hx6, hpg, -⟩
            obtain ⟨b2, g2, rfl, rfl, rfl, hp2⟩ := hpg (by trivial)
            obtain ⟨G6, hG6⟩ : ∃ G, w6.heap.size = G := ⟨_, rfl⟩
            obtain ⟨W6, hW6⟩ : ∃ W, w6.alloc (.cells #[.int .i64 0, .int .i64 l1] 27) = W := ⟨_, rfl⟩
            have y1 : Ext w6 W6 := by rw [← hW6]; exact ext_al _ _
            have y3 := hx6.trans y1
            have HE6 := Lib.hid (HE5.out.trans y3); have HF6 := Lib.hid (HF5.out.ext y3); have HR6 := Lib.hid (HR5.out.ext y3); have HI6 := Lib.hid (HI5.out.ext y3)
            have HG6 := Lib.hid (show FtB W6 G6 0 l1 from ⟨by rw [← hW6, ← hG6]; exact heap_alloc_new w6 _⟩)
            have HS6 := Lib.hid ((hp2.st.wide (Q' := fun _ => True) (fun _ _ => trivial)).ext y1); have HJ6 := Lib.hid ((hp2.ints rfl).ext y1)
            have HW6 := Lib.hid hW6
            clear hp2 hpg hx6 y1 y3 hW6 HE5 HM5 HK5 HF5 HR5 HI5 HPb d0 d1 d2
            go_upto_region 11 with fail
            rw [HW6.out]
            clear HW6 hG6
            have f0 := HF6.out.x0; have e0 := HG6.out.x0
            go_wp2_with fail
            refine (sameInts_any tb _ _ _ _ _ W6 HI6.out HJ6.out (Nat.le_refl _) (by have := Hb12.out; omega)).mono ?_
            rintro e U ⟨rfl, hx7⟩
            have HEU := Lib.hid (HE6.out.trans hx7); have HRU := Lib.hid (HR6.out.ext hx7); have HSU := Lib.hid (HS6.out.ext hx7)
            clear f0 e0
            have f0 := (HF6.out.ext hx7).x0
            clear hx7 HE6 HF6 HR6 HI6 HG6 HS6 HJ6
            go_upto_region 15 with fail
            clear f0
            go_wp2_with fail
            go_loopg [19] mw (fun kk s19 wr => ∃ i : Nat, s19 = .int .i64 (i : Int) ∧ i ≤ mw ∧ mw - i = kk ∧ Ext U wr)
            case atStart => exact ⟨0, rfl, Nat.zero_le _, rfl, Ext.refl _⟩
            case round =>
              obtain ⟨i, rfl, hi, hkk, hX⟩ := hrel
              have Hkk := Lib.hid hkk; have HX := Lib.hid hX
              by_cases hin : i = mw
              · have q1 : ¬ (i : Int) < (mw : Int) := by omega
                have HE := Lib.hid (HEU.out.trans hX)
                clear hkk hi hin hX
                go_wp2_with fail
                go_ret
                exact ⟨rfl, HE.out⟩
              have hlt : i < mw := by omega
              have q1 : (i : Int) < (mw : Int) := by omega
              have q0 : (0 : Int) ≤ (i : Int) := by omega
              have wk : IntKind.i64.wrap ((i : Int) + 1) = ((i + 1 : Nat) : Int) := by rw [IntKind.wrap_i64]; have := Hmm.out; omega
              obtain ⟨cl2, hcl2, hRl2, hln2⟩ := (HSU.out.ext hX).at hlt
              have hil2 : (Tryd.prog.info? 43).map (·.size) = some cl2.length := by rw [hln2]; exact R_size
              have lb2 := (HSU.out.ext hX).lt
              have Hlt := Lib.hid hlt; have HRl2 := Lib.hid hRl2
              by_cases him : i < m
              · have q2 : (i : Int) < (m : Int) := by omega
                have q3 : ¬ (m : Int) ≤ (i : Int) := by omega
                obtain ⟨cl1, hcl1, hRl1, hln1⟩ := (HRU.out.ext hX).at him
                have hil1 : (Tryd.prog.info? 43).map (·.size) = some cl1.length := by rw [hln1]; exact R_size
                have lb1 := (HRU.out.ext hX).lt
                have HRl1 := Lib.hid hRl1
                have HSm := Lib.hid (fun (wx : World) (hx : Ext wr wx) => QSame_nm (Qc := fun _ => True) cl1.toArray cl2.toArray _ _ 8200 4100 wx (HRl1.out.ext hx) (HRl2.out.ext hx) (by decide) (by decide) (fun _ _ => trivial) true ⟨fun _ => EqN.refl _, fun _ => rfl⟩)
                clear hkk hi hin hX hlt him hRl1 hRl2 hln1 hln2 HRl1 HRl2
                go_upto_region 18 with fail
                obtain ⟨X, F, hFe, hFs⟩ : ∃ (X : Type) (F : X → World), (∀ x, Ext wr (F x)) ∧ (∀ w', Ext wr w' → ∃ x, w' = F x) := ⟨{ w' : World // Ext wr w' }, Subtype.val, fun x => x.2, fun w' h => ⟨⟨w', h⟩, rfl⟩⟩
                have hXn : Nonempty X := (hFs wr (Ext.refl wr)).elim fun x _ => ⟨x⟩
                have hUd : Ext wr wr.drew := Below.drew (Ext.refl _)
                have fc1 : ∀ x, (F x).rangeAt b1 (i * 17) cl1 := fun x => range_keep hcl1 lb1 (hFe x)
                have fc2 : ∀ x, (F x).rangeAt b2 (i * 17) cl2 := fun x => range_keep hcl2 lb2 (hFe x)
                refine wp_region_F (by kernel_rfl) (by kernel_rfl) (hFs _ hUd) ?_
                go_big_quiet_step (fail)
                go_big_quiet_step (fail)
                go_big_quiet_step (fail)
                go_big_quiet_step (fail)
                go_big_quiet_step (fail)
                go_big_quiet_step (fail)
                go_big_quiet_step (fail)
                go_big_quiet_step (fail)
                go_big_quiet_want
                refine quiet_load_mid (cl := cl1) ?_ ?_
                · rintro _ ⟨xq, rfl⟩
                  exact exec_load_mid 43 _ rfl b1 (i * 17) rfl cl1 _ (fc1 xq) Tryd.underlying43 rfl hil1
                simp only [Act.put, List.setIfInBounds_toArray, List.set_cons_zero, List.set_cons_succ]
                go_big_quiet_on
                go_big_quiet_step (fail)
                go_big_quiet_step (fail)
                go_big_quiet_step (fail)
                go_big_quiet_want
                refine quiet_load_mid (cl := cl2) ?_ ?_
                · rintro _ ⟨xq, rfl⟩
                  exact exec_load_mid 43 _ rfl b2 (i * 17) rfl cl2 _ (fc2 xq) Tryd.underlying43 rfl hil2
                simp only [Act.put, List.setIfInBounds_toArray, List.set_cons_zero, List.set_cons_succ]
                go_big_quiet_on
                go_big_quiet_step (exact (HSm.out _ (hFe _)).mono (fun e w' h => ⟨h.1, hFs _ ((hFe _).trans h.2)⟩))
                go_big_quiet_step (fail)
                go_big_quiet_step (fail)
                refine wpQuiet_nil ?_
                rintro _ ⟨xq, rfl⟩
                have HX9 := Lib.hid (HX.out.trans (hFe xq))
                clear HSm hcl1 hcl2 hil1 hil2 lb1 lb2 fc1 fc2 hFe hFs hUd hXn
                go_wp2_with fail
                go_roundg (mw - (i + 1))
                case measure => have := Hkk.out; have := Hlt.out; omega
                case rel => exact ⟨i + 1, rfl, Hlt.out, rfl, HX9.out⟩
              · have q2 : ¬ (i : Int) < (m : Int) := by omega
                have q3 : (m : Int) ≤ (i : Int) := by omega
                have hz := Hzz.out i (by omega)
                have HZr := Lib.hid (fun (wx : World) (hx : Ext wr wx) => QZero_any (Qc := fun _ => True) cl2.toArray _ _ wx (HRl2.out.ext hx).val true ⟨fun _ => (zero_iff HRl2.out).2 hz, fun _ => rfl⟩)
                clear hkk hi hin hX hlt him hRl2 hln2 HRl2 hz
                go_upto_region 18 with fail
                obtain ⟨X, F, hFe, hFs⟩ : ∃ (X : Type) (F : X → World), (∀ x, Ext wr (F x)) ∧ (∀ w', Ext wr w' → ∃ x, w' = F x) := ⟨{ w' : World // Ext wr w' }, Subtype.val, fun x => x.2, fun w' h => ⟨⟨w', h⟩, rfl⟩⟩
                have hXn : Nonempty X := (hFs wr (Ext.refl wr)).elim fun x _ => ⟨x⟩
                have hUd : Ext wr wr.drew := Below.drew (Ext.refl _)
                have fc2 : ∀ x, (F x).rangeAt b2 (i * 17) cl2 := fun x => range_keep hcl2 lb2 (hFe x)
                refine wp_region_F (by kernel_rfl) (by kernel_rfl) (hFs _ hUd) ?_
                repeat (go_big_quiet_step (fail))
                refine wpQuiet_nil ?_
                rintro _ ⟨xq, rfl⟩
                have hc9 := fc2 xq
                have HX8 := Lib.hid (hFe xq)
                clear hcl2 lb2 fc2 hFe hFs hUd hXn
                generalize F xq = w8 at *
                go_wp2_with (refine wpList_load_midQ rfl 43 _ rfl b2 (i * 17) rfl cl2 _ hc9 Tryd.underlying43 rfl hil2 ?_)
                refine (HZr.out w8 HX8.out).mono ?_
                rintro e w9 ⟨rfl, hx9⟩
                have HX9 := Lib.hid (HX.out.trans (HX8.out.trans hx9))
                clear hx9 hc9 hil2 HZr HX8
                go_wp2_with fail
                go_roundg (mw - (i + 1))
                case measure => have := Hkk.out; have := Hlt.out; omega
                case rel => exact ⟨i + 1, rfl, Hlt.out, rfl, HX9.out⟩
          · have ne := nt hl0
            have nf := nf' (show l0 = l0 from rfl)
            have Hl0 := Lib.hid hl0
            clear hl0
            go_wp2_with fail
            refine (HPa.out w4 HE4.out).mono ?_
            rintro e w5 ⟨r0, r1, r2, rfl, hx5, -, hpb⟩
            obtain ⟨rfl, rfl⟩ := hpb Hl0.out
            obtain ⟨G5, hG5⟩ : ∃ G, w5.heap.size = G := ⟨_, rfl⟩
            obtain ⟨W5, hW5⟩ : ∃ W, w5.alloc (.cells #[.int .i64 l0, .int .i64 k1] 27) = W := ⟨_, rfl⟩
            have y1 : Ext w5 W5 := by rw [← hW5]; exact ext_al _ _
            have y3 := hx5.trans y1
            have HE5 := Lib.hid (HE4.out.trans y3); have HM5 := Lib.hid (HM4.out.ext y3); have HK5 := Lib.hid (HK4.out.ext y3)
            have HF5 := Lib.hid (show FtB W5 G5 l0 k1 from ⟨by rw [← hW5, ← hG5]; exact heap_alloc_new w5 _⟩)
            have HW5 := Lib.hid hW5
            clear hpb hx5 y1 y3 hW5 HE4 HM4 HK4 HPa d0 d1 d2 HC4
            go_upto_region 10 with fail
            rw [HW5.out]
            clear HW5 hG5
            have d0 := HM5.out.x0; have d1 := HM5.out.x1; have d2 := HM5.out.x2
            go_wp2_with fail
            refine (HPb.out W5 HE5.out a2 m2 c2 HK5.out Hm2.out Hx2.out).mono ?_
            rintro e w6 ⟨r0, r1, r2, rfl, hx6, -, hpb⟩
            obtain ⟨rfl, rfl⟩ := hpb Hl0.out
            obtain ⟨G6, hG6⟩ : ∃ G, w6.heap.size = G := ⟨_, rfl⟩
            obtain ⟨W6, hW6⟩ : ∃ W, w6.alloc (.cells #[.int .i64 l0, .int .i64 l1] 27) = W := ⟨_, rfl⟩
            have y1 : Ext w6 W6 := by rw [← hW6]; exact ext_al _ _
            have y3 := hx6.trans y1
            have HE6 := Lib.hid (HE5.out.trans y3); have HF6 := Lib.hid (HF5.out.ext y3)
            have HG6 := Lib.hid (show FtB W6 G6 l0 l1 from ⟨by rw [← hW6, ← hG6]; exact heap_alloc_new w6 _⟩)
            have HW6 := Lib.hid hW6
            clear hpb hx6 y1 y3 hW6 HE5 HM5 HK5 HF5 HPb d0 d1 d2
            go_upto_region 11 with fail
            rw [HW6.out]
            clear HW6 hG6
            have f0 := HF6.out.x0; have e0 := HG6.out.x0
            go_wp2_with fail
            refine (sameInts_any [] _ 0 0 _ _ W6 ⟨rfl, Or.inl rfl⟩ ⟨rfl, Or.inl rfl⟩ (Nat.le_refl _) (by decide)).mono ?_
            rintro e U ⟨rfl, hx7⟩
            have HEU := Lib.hid (HE6.out.trans hx7)
            clear f0 e0
            have f0 := (HF6.out.ext hx7).x0
            clear hx7 HE6 HF6 HG6
            go_wp2_with fail
            go_ret
            exact ⟨rfl, HEU.out⟩
  · have hcb := nt hz
    clear hz
    go_wp2_with fail
    go_ret
    exact ⟨rfl, HE4.out⟩
end Go.Proofs.YthgmlhddanbbpaaDoor
