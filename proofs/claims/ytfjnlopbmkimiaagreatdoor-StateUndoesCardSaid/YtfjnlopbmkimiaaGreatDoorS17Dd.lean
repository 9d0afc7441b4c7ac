/-
  The program: start: a run begins. The program: play: a circuit is run to its end, with the outcomes of the tape. The program: texts: all amplitudes as they are written. The program: Run. A tally in a variable; what is counted, in plain numbers. The program's writer of an operation. The program's Print. The reader: an operation. The reference: texts cut at a byte; figures. The reference's SameInts and SameCircuit, of alike lists and circuits.
-/
import Derived.Test.YtfjnlopbmkimiaaGreatDoorProg
import Derived.Test.YtfjnlopbmkimiaaGreatDoorRows
import Derived.BigQuiet
import Derived.Deep.AppendLies
import Derived.Deep.Cut
import Derived.Deep.CutRange
import Derived.Deep.LoopGhost
import Derived.Deep.MidRow
import Derived.Deep.QuietTactic
import Derived.Deep.RegionHeld3
import Derived.Ground.Names2Prog
import Derived.Laws.Bits64b
import Derived.Laws.CopyOwn
import Derived.Laws.IdiomCopy
import Derived.Laws.ResultCell
import Derived.Laws.Rows
import Derived.Lib.AppendIntMem
import Derived.Lib.AppendStr
import Derived.Lib.BitFns
import Derived.Lib.Hide
import Derived.Lib.ItoaMem
import Derived.Lib.ItoaNum
import Derived.Lib.Strings
import Derived.Lib.TrailingZeros
import Derived.LoopIn
import Derived.LoopNIn
import Derived.OrdersHeld
import Derived.OrdersIn
import Derived.OwnWalk
import Derived.OwnWalkIn
import Derived.ProofKit
import Derived.RangeFuncBound
import Derived.RangeFuncCalls
import Derived.RangeFuncFrom
import Derived.RangeFuncLeaves
import Derived.RegionTactic
import Derived.Shelf.Abstract
import Derived.Shelf.Bits.Mul64
import Derived.Shelf.LaysM
import Derived.Shelf.Slices.SearchI
import Derived.Shelf.Small.Bits
import Derived.Shelf.Small.Wraps
import Derived.Shelf.Spec.BitsCarry
import Derived.Shelf.Spec.TrailingZeros
import Derived.Shelf.Strconv.Itoa0
import Derived.Shelf.Strconv.Itoa1
import Derived.Shelf.Strconv.Itoa2
import Derived.Shelf.Strconv.Itoa3
import Derived.Shelf.Strings.Builder1
import Derived.Shelf.Strings.BuilderF
import Derived.Shelf.Strings.BuilderK
import Derived.TacticsInMore
import Derived.WalkKit
import Derived.WalkLawsBesides
import Derived.WalkSpells
import Derived.Test.YtfjnlopbmkimiaaGreatDoorS00Mem
import Derived.Test.YtfjnlopbmkimiaaGreatDoorShelf
import Derived.Test.YtfjnlopbmkimiaaGreatDoorS02ShiftI
import Derived.Test.YtfjnlopbmkimiaaGreatDoorS03GuessD
import Derived.Test.YtfjnlopbmkimiaaGreatDoorS04IntB
import Derived.Test.YtfjnlopbmkimiaaGreatDoorS05IntD
import Derived.Test.YtfjnlopbmkimiaaGreatDoorS06GcB
import Derived.Test.YtfjnlopbmkimiaaGreatDoorS07Rg
import Derived.Test.YtfjnlopbmkimiaaGreatDoorS08ZC
import Derived.Test.YtfjnlopbmkimiaaGreatDoorS09Bw
import Derived.Test.YtfjnlopbmkimiaaGreatDoorS10TxT
import Derived.Test.YtfjnlopbmkimiaaGreatDoorS11Xo
import Derived.Test.YtfjnlopbmkimiaaGreatDoorS12Xm
import Derived.Test.YtfjnlopbmkimiaaGreatDoorS13Yg
import Derived.Test.YtfjnlopbmkimiaaGreatDoorS14Rz
import Derived.Test.YtfjnlopbmkimiaaGreatDoorS15Yn
import Derived.Test.YtfjnlopbmkimiaaGreatDoorS16Xt
namespace Go.Proofs.YtfjnlopbmkimiaaGreatDoor
open Go.RowKit

set_option maxRecDepth 100000 in
/-- 'make([]int, n)' in a drawn region. -/
theorem stepK_makeI {ops : Array Oper} {o : Oper} {a : Act} {K : Act → World → Prop} {Q : Exit → Act → World → Prop} {E : Prop} {w : World} (hgd : o.guard = none) (l c : Operand) (hop : o.op = Op.makeSlice 25 l c) (kl kc : IntKind) (L C : Int) (n : Nat)
    (hl : a.eval l = .int kl L) (hc : a.eval c = .int kc C) (hL : L = (n : Int)) (hC : C = (n : Int)) (b2 : n ≤ 1048576)
    (hK : ∀ w', w'.heap[w.heap.size]? = some (.cells (bC (List.replicate n 0)) 3 (0, 0)) → Ext w w' → K (a.put o.dst (.slice (some ⟨w.heap.size, 0, none⟩) n n)) w') :
    if Region.wanted o (yielded ops a.tmps) = true then Oper.wp Tryz.prog o a w K Q else E := by
  have hw : Region.wanted o (yielded ops a.tmps) = true := by simp [Region.wanted, hgd]
  rw [if_pos hw]
  obtain ⟨i0, hi, hz0, hz1, hz2⟩ := info_parts int_info
  obtain ⟨w', hrun, hown, hgrow⟩ := run_make_full (P := Tryz.prog) w w.heap.size 25 3 i0 (.int .i64 0) 1 Tryz.underlying25 hi hz0 hz1 kl kc n (by rw [hz2]; omega) (by unfold maxLen; omega) (Nat.le_refl _)
  subst hL
  subst hC
  have key : w'.heap[w.heap.size]? = some (.cells (bC (List.replicate n 0)) 3 (0, 0)) := by
    obtain ⟨_, h | ⟨g, cap, cur, hv, _, hh, _, _, hsz, ht⟩⟩ := hown
    · simp at h
    · simp only [Value.slice.injEq, Option.some.injEq, Addr.mk.injEq, and_true, true_and] at hv
      obtain ⟨hg, rfl⟩ := hv
      subst hg
      rw [hh]
      congr 2
      apply Array.toList_inj.1
      have e1 : cur.toList.take (n * 1) = cur.toList := List.take_of_length_le (by rw [Array.length_toList, hsz]; exact Nat.le_refl _)
      rw [e1] at ht
      rw [ht]
      simp [Value.cells, toList_madeCells_one, bC]
  unfold Oper.wp
  simp [execOp, hop, hl, hc, hrun, Result.andThen]
  exact hK w' key ((Below.refl _ _).grown hgrow (Nat.le_refl _) (fun k h => by cases h))

set_option maxRecDepth 100000 in
set_option maxHeartbeats 4000000 in
theorem start_any (qn nb x : Nat) (ao : Option Addr) (n cp : Nat) (w : World) (hq : qn ≤ 12) (hnb : nb ≤ 12) (hx : x < 2 ^ qn) :
    Calls Tryz.prog 51 #[.agg #[.int .i64 (qn : Int), .int .i64 (nb : Int), .slice ao n cp], .int .i64 (x : Int)] w fun e w' => ∃ B R bw bb, e = .returned (.pointer (some ⟨R, 0, none⟩)) ∧ RunA w w' B R ao n cp 0 bw (2 ^ qn) (2 ^ qn) bb (List.replicate nb 0) (.slice none 0 0) 0 (bas x) 0 := by
  obtain ⟨H, hH⟩ : ∃ H, w.heap.size = H := ⟨_, rfl⟩
  obtain ⟨W, hW⟩ : ∃ W, w.alloc (.cells #[.int .i64 (qn : Int), .int .i64 (nb : Int), .slice ao n cp] 24) = W := ⟨_, rfl⟩
  have E1 : Ext w W := by rw [← hW]; exact ext_alloc _ _
  have bCi : CiB W H (qn : Int) (nb : Int) ao n cp := by rw [← hW, ← hH]; exact ⟨heap_alloc_new w _⟩
  have v0 := bCi.x0; have v1 := bCi.x1; have v2 := bCi.x2
  have lH := bCi.lt
  have HB := Lib.hid (fun (wx : World) => basis_wave qn x wx hq hx 1 0 (Nat.le_refl _))
  have HA := Lib.hid (show ∀ y, Amp 0 (bas x y) from fun y => bas_amp x y)
  obtain ⟨m, hm⟩ : ∃ m, 2 ^ qn = m := ⟨_, rfl⟩
  rw [hm] at HB ⊢
  have HW := Lib.hid hW; have HH := Lib.hid hH; have HE1 := Lib.hid E1
  clear hW hH E1 bCi hm hq hx
  go_enter Tryz.func51, Tryz.ntmps51
  go_upto_region 1 with fail
  rw [HW.out, HH.out]
  have d0 : Ext W W.drew := Below.drew (Ext.refl _)
  refine wp_region_any (by kernel_rfl) (anyT_plain (k := 99) (S := fun w' => True) (T := fun w' => (w'.cell? ⟨H, 0, none⟩ = some (.int .i64 (qn : Int)) ∧ w'.cell? ⟨H, 1, none⟩ = some (.int .i64 (nb : Int))) ∧ w'.cell? ⟨H, 2, none⟩ = some (.slice ao n cp)) _ _ _ _ ?_)
  show anyT _ _ _ _ _ _ _ 12 #[false, false, false, false, false, false, false, false, false, false, false, false] _ _
  have hT : (W.drew.cell? ⟨H, 0, none⟩ = some (.int .i64 (qn : Int)) ∧ W.drew.cell? ⟨H, 1, none⟩ = some (.int .i64 (nb : Int))) ∧ W.drew.cell? ⟨H, 2, none⟩ = some (.slice ao n cp) := ⟨⟨cellKeep d0 lH v0, cellKeep d0 lH v1⟩, cellKeep d0 lH v2⟩
  have hHeld : True := trivial
  refine anyT_takeT (i := 0) (v := ?_) rfl (by decide) (by kernel_rfl) (by kernel_rfl) (by kernel_rfl) (fun _ _ _ h => h) (Or.inl ⟨by rfl, ?_⟩) hT (fun _ => hHeld) ?_
  rotate_left 1
  · intro w hSw
    go_simp
    try with_reducible rfl
  show anyT _ _ _ _ _ _ _ _ _ (Act.put _ (some 5) _) _
  simp only [Act.put, List.setIfInBounds_toArray, List.set_cons_zero, List.set_cons_succ]
  refine anyT_takeT (i := 1) (v := ?_) rfl (by decide) (by kernel_rfl) (by kernel_rfl) (by kernel_rfl) (fun _ _ _ h => h) (Or.inl ⟨by rfl, ?_⟩) hT (fun _ => hHeld) ?_
  rotate_left 1
  · intro w hSw
    go_simp
    try with_reducible rfl
  show anyT _ _ _ _ _ _ _ _ _ (Act.put _ (some 6) _) _
  simp only [Act.put, List.setIfInBounds_toArray, List.set_cons_zero, List.set_cons_succ]
  refine anyT_takeT (i := 2) (v := ?_) rfl (by decide) (by kernel_rfl) (by kernel_rfl) (by kernel_rfl) (fun _ _ _ h => h) (Or.inl ⟨by rfl, ?_⟩) hT (fun _ => hHeld) ?_
  rotate_left 1
  · intro w hSw
    go_simp
    try with_reducible rfl
  show anyT _ _ _ _ _ _ _ _ _ (Act.put _ (some 7) _) _
  simp only [Act.put, List.setIfInBounds_toArray, List.set_cons_zero, List.set_cons_succ]
  refine anyT_takeT (i := 3) (v := ?_) rfl (by decide) (by kernel_rfl) (by kernel_rfl) (by kernel_rfl) (fun _ _ _ h => h) (Or.inl ⟨by rfl, ?_⟩) hT (fun _ => hHeld) ?_
  rotate_left 1
  · intro w hSw
    go_simp
    try with_reducible rfl
  show anyT _ _ _ _ _ _ _ _ _ (Act.put _ (some 8) _) _
  simp only [Act.put, List.setIfInBounds_toArray, List.set_cons_zero, List.set_cons_succ]
  refine anyT_takeT (i := 4) (v := ?_) rfl (by decide) (by kernel_rfl) (by kernel_rfl) (by kernel_rfl) (fun _ _ _ h => h) (Or.inl ⟨by rfl, ?_⟩) hT (fun _ => hHeld) ?_
  rotate_left 1
  · intro w hSw
    go_simp
    try with_reducible rfl
  show anyT _ _ _ _ _ _ _ _ _ (Act.put _ (some 9) _) _
  simp only [Act.put, List.setIfInBounds_toArray, List.set_cons_zero, List.set_cons_succ]
  refine anyT_takeT (i := 6) (v := ?_) rfl (by decide) (by kernel_rfl) (by kernel_rfl) (by kernel_rfl) (fun _ _ _ h => h) (Or.inl ⟨by rfl, ?_⟩) hT (fun _ => hHeld) ?_
  rotate_left 1
  · intro w hSw
    go_simp
    try with_reducible rfl
  show anyT _ _ _ _ _ _ _ _ _ (Act.put _ (some 11) _) _
  simp only [Act.put, List.setIfInBounds_toArray, List.set_cons_zero, List.set_cons_succ]
  refine anyT_takeT (i := 7) (v := ?_) rfl (by decide) (by kernel_rfl) (by kernel_rfl) (by kernel_rfl) (fun _ _ _ h => h) (Or.inl ⟨by rfl, ?_⟩) hT (fun _ => hHeld) ?_
  rotate_left 1
  · intro w hSw
    go_simp
    try with_reducible rfl
  show anyT _ _ _ _ _ _ _ _ _ (Act.put _ (some 12) _) _
  simp only [Act.put, List.setIfInBounds_toArray, List.set_cons_zero, List.set_cons_succ]
  clear hT hHeld
  refine anyT_two (i := 5) (j := 8) (by kernel_rfl) rfl rfl (fun Kk hKk => ?_) (fun Kk hKk => ?_)
  · go_simp
    (go_at_call 81; refine (HB.out W.drew).mono ?_; rintro e w2 ⟨bw, rfl, hwv, hbw, hx2⟩)
    have he2 := d0.trans hx2
    go_wp2_with fail
    refine hKk.out _ _ (⟨⟨cellKeep he2 lH v0, cellKeep he2 lH v1⟩, cellKeep he2 lH v2⟩) (fun _ => trivial) ?_
    clear hKk Kk
    simp only [List.setIfInBounds_toArray, List.set_cons_zero, List.set_cons_succ]
    refine anyT_one (i := 8) (by kernel_rfl) rfl (fun Kk hKk => ?_)
    refine stepK_makeI rfl _ _ rfl .i64 .i64 (nb : Int) (nb : Int) nb rfl rfl rfl rfl (by omega) ?_
    intro w3 hb3 hx3
    have he := he2.trans hx3
    refine hKk.out _ _ (⟨⟨cellKeep he lH v0, cellKeep he lH v1⟩, cellKeep he lH v2⟩) (fun _ => trivial) ?_
    clear hKk Kk
    simp only [Act.put, List.setIfInBounds_toArray, List.set_cons_zero, List.set_cons_succ]
    have hwv3 := hwv.ext hx3
    have hbb : W.heap.size ≤ w2.heap.size := he2.size
    have hbw2 : W.heap.size ≤ bw := Nat.le_trans d0.size hbw
    obtain ⟨bb, hbbe⟩ : ∃ bb, w2.heap.size = bb := ⟨_, rfl⟩
    rw [hbbe] at hb3 hbb ⊢
    clear hbbe
    have hT : (w3.cell? ⟨H, 0, none⟩ = some (.int .i64 (qn : Int)) ∧ w3.cell? ⟨H, 1, none⟩ = some (.int .i64 (nb : Int))) ∧ w3.cell? ⟨H, 2, none⟩ = some (.slice ao n cp) := ⟨⟨cellKeep he lH v0, cellKeep he lH v1⟩, cellKeep he lH v2⟩
    have hHeld : True := trivial
    refine anyT_takeT (i := 9) (v := ?_) rfl (by decide) (by kernel_rfl) (by kernel_rfl) (by kernel_rfl) (fun _ _ _ h => h) (Or.inl ⟨by rfl, ?_⟩) hT (fun _ => hHeld) ?_
    rotate_left 1
    · intro w hSw
      go_simp
      try with_reducible rfl
    show anyT _ _ _ _ _ _ _ _ _ (Act.put _ (some 14) _) _
    simp only [Act.put, List.setIfInBounds_toArray, List.set_cons_zero, List.set_cons_succ]
    clear hT hHeld
    have EX := ext_alloc w3 (.cells #[.slice ao n cp, .int .i64 0, .slice (some ⟨bw, 0, none⟩) m m, .slice (some ⟨bb, 0, none⟩) nb nb, .slice none 0 0] 68)
    have hX := heap_alloc_new w3 (.cells #[.slice ao n cp, .int .i64 0, .slice (some ⟨bw, 0, none⟩) m m, .slice (some ⟨bb, 0, none⟩) nb nb, .slice none 0 0] 68)
    have Hend := Lib.hid (show RunA w (w3.alloc (.cells #[.slice ao n cp, .int .i64 0, .slice (some ⟨bw, 0, none⟩) m m, .slice (some ⟨bb, 0, none⟩) nb nb, .slice none 0 0] 68)) (w3.heap.size + 1) w3.heap.size ao n cp 0 bw m m bb (List.replicate nb 0) (.slice none 0 0) 0 (bas x) 0 from ⟨(HE1.out.trans he).trans EX, by rw [List.length_replicate]; exact hX, (EX.block _ (Array.getElem?_eq_some_iff.1 hb3).1).trans hb3, ⟨[], rfl, Or.inl ⟨rfl, rfl⟩, fun g hg => by cases hg⟩, ((hwv3).ext EX).amp HA.out, ⟨by have := (HE1.out.trans he).size; omega, by omega⟩, ⟨by have := HE1.out.size; have := d0.size; omega, by have := (Array.getElem?_eq_some_iff.1 hb3).1; omega⟩, ⟨by have := HE1.out.size; have := d0.size; omega, by have := (hwv3).lt; omega⟩, by simp⟩)
    have he' := he.trans EX
    refine anyT_one (i := 10) (by kernel_rfl) rfl (fun Kk hKk => ?_)
    go_simp
    go_wp2_with fail
    refine hKk.out _ _ (⟨⟨cellKeep he' lH v0, cellKeep he' lH v1⟩, cellKeep he' lH v2⟩) (fun _ => trivial) ?_
    clear hKk Kk
    simp only [List.setIfInBounds_toArray, List.set_cons_zero, List.set_cons_succ]
    generalize w3.alloc (.cells #[.slice ao n cp, .int .i64 0, .slice (some ⟨bw, 0, none⟩) m m, .slice (some ⟨bb, 0, none⟩) nb nb, .slice none 0 0] 68) = WX at *
    have hT : (WX.cell? ⟨H, 0, none⟩ = some (.int .i64 (qn : Int)) ∧ WX.cell? ⟨H, 1, none⟩ = some (.int .i64 (nb : Int))) ∧ WX.cell? ⟨H, 2, none⟩ = some (.slice ao n cp) := ⟨⟨cellKeep he' lH v0, cellKeep he' lH v1⟩, cellKeep he' lH v2⟩
    have hHeld : True := trivial
    refine anyT_takeT (i := 11) (v := ?_) rfl (by decide) (by kernel_rfl) (by kernel_rfl) (by kernel_rfl) (fun _ _ _ h => h) (Or.inl ⟨by rfl, ?_⟩) hT (fun _ => hHeld) ?_
    rotate_left 1
    · intro w hSw
      go_simp
      try with_reducible rfl
    show anyT _ _ _ _ _ _ _ _ _ (Act.put _ (some 4) _) _
    simp only [Act.put, List.setIfInBounds_toArray, List.set_cons_zero, List.set_cons_succ]
    refine anyT_done (by kernel_rfl) ?_ _
    clear hT hHeld EX hX he he'
    go_wp2_with fail
    go_ret
    exact ⟨_, _, _, _, rfl, Hend.out⟩
  · refine stepK_makeI rfl _ _ rfl .i64 .i64 (nb : Int) (nb : Int) nb rfl rfl rfl rfl (by omega) ?_
    intro w2 hb2 hx2
    have he2 := d0.trans hx2
    refine hKk.out _ _ (⟨⟨cellKeep he2 lH v0, cellKeep he2 lH v1⟩, cellKeep he2 lH v2⟩) (fun _ => trivial) ?_
    clear hKk Kk
    simp only [Act.put, List.setIfInBounds_toArray, List.set_cons_zero, List.set_cons_succ]
    refine anyT_one (i := 5) (by kernel_rfl) rfl (fun Kk hKk => ?_)
    go_simp
    (go_at_call 81; refine (HB.out w2).mono ?_; rintro e w3 ⟨bw, rfl, hwv, hbw, hx3⟩)
    have he := he2.trans hx3
    go_wp2_with fail
    refine hKk.out _ _ (⟨⟨cellKeep he lH v0, cellKeep he lH v1⟩, cellKeep he lH v2⟩) (fun _ => trivial) ?_
    clear hKk Kk
    simp only [List.setIfInBounds_toArray, List.set_cons_zero, List.set_cons_succ]
    have hb3 := (hx3.block _ (Array.getElem?_eq_some_iff.1 hb2).1).trans hb2
    have hbw2 : W.heap.size ≤ bw := Nat.le_trans he2.size hbw
    obtain ⟨bb, hbbe⟩ : ∃ bb, W.heap.size = bb := ⟨_, rfl⟩
    have hbb : W.heap.size ≤ bb := by omega
    have lH2 : H < W.heap.size := lH
    rw [hbbe] at hb3 ⊢
    clear hbbe hb2
    have hT : (w3.cell? ⟨H, 0, none⟩ = some (.int .i64 (qn : Int)) ∧ w3.cell? ⟨H, 1, none⟩ = some (.int .i64 (nb : Int))) ∧ w3.cell? ⟨H, 2, none⟩ = some (.slice ao n cp) := ⟨⟨cellKeep he lH v0, cellKeep he lH v1⟩, cellKeep he lH v2⟩
    have hHeld : True := trivial
    refine anyT_takeT (i := 9) (v := ?_) rfl (by decide) (by kernel_rfl) (by kernel_rfl) (by kernel_rfl) (fun _ _ _ h => h) (Or.inl ⟨by rfl, ?_⟩) hT (fun _ => hHeld) ?_
    rotate_left 1
    · intro w hSw
      go_simp
      try with_reducible rfl
    show anyT _ _ _ _ _ _ _ _ _ (Act.put _ (some 14) _) _
    simp only [Act.put, List.setIfInBounds_toArray, List.set_cons_zero, List.set_cons_succ]
    clear hT hHeld
    have EX := ext_alloc w3 (.cells #[.slice ao n cp, .int .i64 0, .slice (some ⟨bw, 0, none⟩) m m, .slice (some ⟨bb, 0, none⟩) nb nb, .slice none 0 0] 68)
    have hX := heap_alloc_new w3 (.cells #[.slice ao n cp, .int .i64 0, .slice (some ⟨bw, 0, none⟩) m m, .slice (some ⟨bb, 0, none⟩) nb nb, .slice none 0 0] 68)
    have Hend := Lib.hid (show RunA w (w3.alloc (.cells #[.slice ao n cp, .int .i64 0, .slice (some ⟨bw, 0, none⟩) m m, .slice (some ⟨bb, 0, none⟩) nb nb, .slice none 0 0] 68)) (w3.heap.size + 1) w3.heap.size ao n cp 0 bw m m bb (List.replicate nb 0) (.slice none 0 0) 0 (bas x) 0 from ⟨(HE1.out.trans he).trans EX, by rw [List.length_replicate]; exact hX, (EX.block _ (Array.getElem?_eq_some_iff.1 hb3).1).trans hb3, ⟨[], rfl, Or.inl ⟨rfl, rfl⟩, fun g hg => by cases hg⟩, ((hwv).ext EX).amp HA.out, ⟨by have := (HE1.out.trans he).size; omega, by omega⟩, ⟨by have := HE1.out.size; have := d0.size; omega, by have := (Array.getElem?_eq_some_iff.1 hb3).1; omega⟩, ⟨by have := HE1.out.size; have := d0.size; omega, by have := (hwv).lt; omega⟩, by simp⟩)
    have he' := he.trans EX
    refine anyT_one (i := 10) (by kernel_rfl) rfl (fun Kk hKk => ?_)
    go_simp
    go_wp2_with fail
    refine hKk.out _ _ (⟨⟨cellKeep he' lH v0, cellKeep he' lH v1⟩, cellKeep he' lH v2⟩) (fun _ => trivial) ?_
    clear hKk Kk
    simp only [List.setIfInBounds_toArray, List.set_cons_zero, List.set_cons_succ]
    generalize w3.alloc (.cells #[.slice ao n cp, .int .i64 0, .slice (some ⟨bw, 0, none⟩) m m, .slice (some ⟨bb, 0, none⟩) nb nb, .slice none 0 0] 68) = WX at *
    have hT : (WX.cell? ⟨H, 0, none⟩ = some (.int .i64 (qn : Int)) ∧ WX.cell? ⟨H, 1, none⟩ = some (.int .i64 (nb : Int))) ∧ WX.cell? ⟨H, 2, none⟩ = some (.slice ao n cp) := ⟨⟨cellKeep he' lH v0, cellKeep he' lH v1⟩, cellKeep he' lH v2⟩
    have hHeld : True := trivial
    refine anyT_takeT (i := 11) (v := ?_) rfl (by decide) (by kernel_rfl) (by kernel_rfl) (by kernel_rfl) (fun _ _ _ h => h) (Or.inl ⟨by rfl, ?_⟩) hT (fun _ => hHeld) ?_
    rotate_left 1
    · intro w hSw
      go_simp
      try with_reducible rfl
    show anyT _ _ _ _ _ _ _ _ _ (Act.put _ (some 4) _) _
    simp only [Act.put, List.setIfInBounds_toArray, List.set_cons_zero, List.set_cons_succ]
    refine anyT_done (by kernel_rfl) ?_ _
    clear hT hHeld EX hX he he'
    go_wp2_with fail
    go_ret
    exact ⟨_, _, _, _, rfl, Hend.out⟩
end Go.Proofs.YtfjnlopbmkimiaaGreatDoor
namespace Go.Proofs.YtfjnlopbmkimiaaGreatDoor
open Go.RowKit

theorem plM_take {want : List Int} {o : Gop} {r : List Gop} {i : Nat} {s : Nat → Nm} {bits : List Int} {u : Nat} {v : Int} (hc : cnM bits o.cnd = true) (hk : ¬ o.kind < 5) (hu : ¬ u = want.length) (hv : want.getD u 0 = v) (hb : v = 0 ∨ v = 1) :
    plM want (o :: r) i s bits u = plM want r (i + 1) (tkS o v s) (tkB o v bits) (u + 1) := by
  unfold tkS tkB
  by_cases h5 : o.kind = 5
  · rw [plM_bit hc h5 hu hv hb, if_pos h5, if_pos h5]
  · rw [if_neg h5, if_neg h5]
    rcases hb with rfl | rfl
    · rw [plM_nought hc hk h5 hu hv, if_neg (by decide)]
    · rw [plM_one hc hk h5 hu hv, if_pos rfl]
theorem tkB_len (o : Gop) (v : Int) (bits : List Int) : (tkB o v bits).length = bits.length := by unfold tkB; split <;> simp
/-- What play comes to. -/
noncomputable def shoR (c : Gci) (x : Int) (want : List Int) : Sho := plM want c.ops 0 (bas x.toNat) (List.replicate c.bits.toNat 0) 0
noncomputable def shoF (c : Gci) (x : Int) (want : List Int) : Int × Int := if (stF c x).1 ≠ 0 then stF c x else (shoR c x want).f

set_option maxRecDepth 100000 in
set_option maxHeartbeats 8000000 in
theorem play_any (c : Gci) (ao : Option Addr) (n cp : Nat) (x : Int) (ta : Option Addr) (tn tc : Nat) (want : List Int) (w : World) (h : OpsAt w ao n c.ops) (hn : n ≤ cp) (hcp : cp ≤ 9223372036854775807) (hT : IntsAt w ta tn want) (hS : Shp w) (hbr : Bru w) :
    Calls Tryz.prog 23 #[.agg #[.int .i64 c.qubits, .int .i64 c.bits, .slice ao n cp], .int .i64 x, .slice ta tn tc] w fun e w' => ∃ p, e = .returned (.tuple #[.pointer p, .agg #[.int .i64 (shoF c x want).1, .int .i64 (shoF c x want).2]]) ∧ Ext w w' ∧
      ((shoF c x want).1 = 0 → ∃ B R i bw bb tv, p = some ⟨R, 0, none⟩ ∧ RunA w w' B R ao n cp i bw (2 ^ c.qubits.toNat) (2 ^ c.qubits.toNat) bb (shoR c x want).bits tv (shoR c x want).u (shoR c x want).s i ∧ i ≤ 4096) := by
  obtain ⟨F, hF⟩ : ∃ F, shoF c x want = F := ⟨_, rfl⟩
  obtain ⟨F0, F1⟩ := F
  obtain ⟨M, hM⟩ : ∃ M, shoR c x want = M := ⟨_, rfl⟩
  rw [hF, hM]
  unfold shoF at hF
  rw [hM] at hF
  unfold shoR at hM
  obtain ⟨qb, bi, ops⟩ := c
  obtain ⟨f, hf⟩ : ∃ f, stF ⟨qb, bi, ops⟩ x = f := ⟨_, rfl⟩
  obtain ⟨f0, f1⟩ := f
  have hz : f0 = 0 → f1 = 0 ∧ (1 ≤ qb ∧ qb ≤ 12) ∧ (0 ≤ bi ∧ bi ≤ 12) ∧ ops.length ≤ 4096 ∧ (∀ g ∈ ops, opCode g qb bi = 0) ∧ 0 ≤ x ∧ x < ((2 ^ qb.toNat : Nat) : Int) := by
    intro h0
    unfold stF at hf
    by_cases hc : (chk ⟨qb, bi, ops⟩).1 = 0
    · rw [if_neg (by simp [hc])] at hf
      obtain ⟨_, h1, h2, h3, h4, h5, h6⟩ := chk_zero hc
      by_cases hx : x < 0 ∨ ((2 ^ qb.toNat : Nat) : Int) ≤ x
      · rw [if_pos hx] at hf
        have := congrArg Prod.fst hf
        simp at this
        omega
      · rw [if_neg hx] at hf
        exact ⟨(congrArg Prod.snd hf).symm, ⟨h1, h2⟩, ⟨h3, h4⟩, h5, h6, by omega, by omega⟩
    · rw [if_pos hc] at hf
      have := congrArg Prod.fst hf
      exact absurd (this.trans h0) hc
  have Hz := Lib.hid hz; have Hf := Lib.hid hf; have HF := Lib.hid hF; have HM := Lib.hid hM
  rw [hf] at HF
  obtain ⟨H, hH⟩ : ∃ H, w.heap.size = H := ⟨_, rfl⟩
  obtain ⟨W0, hW0⟩ : ∃ W0, (w.alloc (.cells #[.int .i64 qb, .int .i64 bi, .slice ao n cp] 24)).alloc (.cells #[.int .i64 0, .int .i64 0] 31) = W0 := ⟨_, rfl⟩
  have E0 : Ext w W0 := by rw [← hW0]; exact (ext_al w _).trans (ext_al _ _)
  have bC : CiB W0 H qb bi ao n cp := by rw [← hW0, ← hH]; exact CiB.ext ⟨heap_alloc_new w _⟩ (ext_al _ _)
  have bF : FtB W0 (H + 1) 0 0 := ⟨by
    have := heap_alloc_new (w.alloc (.cells #[.int .i64 qb, .int .i64 bi, .slice ao n cp] 24)) (.cells #[.int .i64 0, .int .i64 0] 31)
    rw [← hW0, ← hH]
    simpa using this⟩
  have HE0 := Lib.hid E0; have HO := Lib.hid (h.ext E0); have HC := Lib.hid bC; have HFt := Lib.hid bF; have HS := Lib.hid (hS.ext E0); have HT := Lib.hid (hT.ext E0); have HBr := Lib.hid (bru_ext hbr E0)
  have m0 := bC.x0; have m1 := bC.x1; have m2 := bC.x2
  have HH := Lib.hid hH; have HW0 := Lib.hid hW0; have HwH := Lib.hid (show w.heap.size ≤ H + 1 by omega)
  clear h E0 bC bF hF hf hz hS hT hbr hM hH hW0
  go_enter Tryz.func23, Tryz.ntmps23
  go_upto_region 1 with fail
  rw [HW0.out, HH.out]
  have HK := Lib.hid (scheck_any ⟨qb, bi, ops⟩ ao n cp x W0 HO.out hn hcp HS.out)
  rw [Hf.out] at HK
  go_wp2_with fail
  refine HK.out.mono ?_
  rintro e w1 ⟨rfl, hx1⟩
  have Ef := ext_al w1 (.cells #[.int .i64 f0, .int .i64 f1] 31)
  have bf1 : FtB (w1.alloc (.cells #[.int .i64 f0, .int .i64 f1] 31)) w1.heap.size f0 f1 := ⟨heap_alloc_new w1 _⟩
  have q0 := bf1.x0; have q1 := bf1.x1
  have HX1 := Lib.hid (hx1.trans Ef)
  have bz := HFt.out.ext HX1.out; have x0' := bz.x0; have x1' := bz.x1; have g0' := bz.f 0; have g1' := bz.f 1
  have bc := HC.out.ext HX1.out; have v0 := bc.x0; have v1 := bc.x1; have v2 := bc.x2
  have HEz := Lib.hid (HE0.out.trans HX1.out)
  clear bz bc m0 m1 m2 hx1 Ef bf1 HK Hf HW0 HH
  by_cases hc0 : f0 = 0
  · obtain ⟨hf1, ⟨hq1, hq2⟩, ⟨hb1, hb2⟩, hlen, hcode, hx0, hx1⟩ := Hz.out hc0
    obtain ⟨qn, rfl⟩ : ∃ qn : Nat, qb = (qn : Int) := ⟨qb.toNat, by omega⟩
    obtain ⟨nb, rfl⟩ : ∃ nb : Nat, bi = (nb : Int) := ⟨bi.toNat, by omega⟩
    obtain ⟨xn, rfl⟩ : ∃ xn : Nat, x = (xn : Int) := ⟨x.toNat, by omega⟩
    simp only [Int.toNat_natCast] at hx1
    have HM' := Lib.hid (show plM want ops 0 (bas xn) (List.replicate nb 0) 0 = M from HM.out)
    have HFF := Lib.hid (show M.f = (F0, F1) by
      have := HF.out
      rw [if_neg (by simp [hc0])] at this
      exact this)
    have hcb := nf' hc0
    have hnl := HO.out.1
    have hfit : ∀ bits : List Int, bits.length = nb → ∀ o ∈ ops, opCode o qn bits.length = 0 ∧ PlFit o qn bits.length := fun bits hbl o ho => by
      rw [hbl]
      exact ⟨hcode o ho, plFit_of_code (by omega) (by omega) (by omega) (by omega) (hcode o ho)⟩
    have Hfit := Lib.hid hfit; have Hqn := Lib.hid (show qn ≤ 12 by omega); have Hnb := Lib.hid (show nb ≤ 12 by omega); have Hn4 := Lib.hid (show n ≤ 4096 by omega); have Hxn := Lib.hid (show xn < 2 ^ qn by omega)
    have Hnl := Lib.hid hnl
    have lH1 := HFt.out.lt
    clear hf1 hq1 hq2 hb1 hb2 hlen hcode hx0 hx1 HF hc0 Hz HM hfit hnl
    have HOw := Lib.hid (HO.out.ext HX1.out); have HTw := Lib.hid (HT.out.ext HX1.out); have HBw := Lib.hid (bru_ext HBr.out HX1.out); have HFw := Lib.hid (HFt.out.ext HX1.out)
    clear HO HT HBr HFt HC HS x0' x1' g0' g1' lH1 HX1 HE0
    go_upto_region 4 with fail
    generalize w1.alloc (.cells #[.int .i64 f0, .int .i64 f1] 31) = W1 at *
    generalize w1.heap.size = FB at *
    have HSt := Lib.hid (start_any qn nb xn ao n cp W1 Hqn.out Hnb.out Hxn.out)
    clear q0 q1
    go_wp2_with fail
    refine HSt.out.mono ?_
    rintro e w2 ⟨B, R, bw, bb, rfl, hrun⟩
    have Hrun := Lib.hid hrun
    clear hrun HSt v0 v1 v2
    go_wp2_with fail
    go_loopg [10] (n + 1) (fun kk _ wr => ∃ (i : Nat) (bits : List Int) (tv : Value) (u : Nat) (s : Nat → Nm), RunA W1 wr B R ao n cp i bw (2 ^ qn) (2 ^ qn) bb bits tv u s i ∧ i ≤ n ∧ n + 1 - i = kk ∧ bits.length = nb ∧ u ≤ i ∧ u ≤ tn ∧ plM want (ops.drop i) i s bits u = M)
    case atStart => exact ⟨0, _, _, 0, _, Hrun.out, Nat.zero_le _, rfl, List.length_replicate, Nat.le_refl _, Nat.zero_le _, HM'.out⟩
    case round =>
      obtain ⟨i, bits, tv, u, s, hr, hi, hk, hbl, hui, hut, hpl⟩ := hrel
      obtain ⟨ta2, tc2, rfl⟩ := run_tape hr
      obtain ⟨⟨Bq, iq, sq⟩, hq⟩ : ∃ q, askM bits (ops.drop i) i s = q := ⟨_, rfl⟩
      obtain ⟨hiq, hFa, hTr⟩ := plM_ask want bits u ops _ i s rfl Bq iq sq hq
      have HAs := Lib.hid (asks_any W1 wr B R ao n cp i bw qn (2 ^ qn) bb bits (.slice ta2 u tc2) u s ops hr HOw.out Hqn.out Hn4.out (by rw [hbl]; exact Hnb.out) (Hfit.out bits hbl) HBw.out hi Bq iq sq hq)
      obtain ⟨m, hm⟩ : ∃ m, 2 ^ qn = m := ⟨_, rfl⟩
      rw [hm] at HAs
      have Hm := Lib.hid hm; have Hk := Lib.hid hk; have Hbl := Lib.hid hbl; have Hui := Lib.hid hui; have Hut := Lib.hid hut; have Hpl := Lib.hid hpl; have Hiq := Lib.hid hiq
      clear hr hi hk hbl hui hut hpl hiq hq hm
      cases Bq with
      | false =>
        have Hfa := Lib.hid (hFa rfl)
        clear hFa hTr
        go_wp2_with fail
        refine HAs.out.mono ?_
        rintro e w3 ⟨rfl, hr3, _⟩
        have bz := HFw.out.ext hr3.ext; have x0' := bz.x0; have x1' := bz.x1; have g0' := bz.f 0; have g1' := bz.f 1
        have Hr3 := Lib.hid hr3; have Hbz := Lib.hid bz
        clear bz hr3 HAs
        have HMe := Lib.hid (show M = ⟨(0, 0), sq, bits, u⟩ from Hpl.out.symm.trans Hfa.out)
        have HF2 := Lib.hid (show F0 = 0 ∧ F1 = 0 by
          have := HFF.out
          rw [HMe.out] at this
          exact ⟨(congrArg Prod.fst this).symm, (congrArg Prod.snd this).symm⟩)
        have lF := HFw.out.lt
        have cg : Chg (H + 1) w3 ((w3.setCell ⟨H + 1, 0, none⟩ (.int .i64 0)).setCell ⟨H + 1, 1, none⟩ (.int .i64 0)) :=
          Chg.of_only (((Only.refl (H + 1) w3).setCell 0 _).setCell 1 _) (((Keep64.refl w3).set (NotW.i64 x0') _).set (NotW.set (NotW.i64 x1') (NotW.i64 x0') (fun _ h => by cases h)) _)
        have Hend := Lib.hid ((Hr3.out.base HEz.out).put cg ⟨_, _, _, Hbz.out.row, by decide, by decide⟩ HwH.out (by have := Hr3.out.hR; omega) (by have := Hr3.out.hb; omega) (by have := Hr3.out.hR; omega))
        have Hiq4 := Lib.hid (show iq ≤ 4096 by have := Hn4.out; omega)
        have HEf := Lib.hid (HEz.out.trans Hr3.out.ext)
        clear cg lF
        go_wp2_with fail
        refine bodyPost_ret (v := .tuple #[.pointer (some ⟨R, 0, none⟩), .agg #[.int .i64 0, .int .i64 0]]) (by simp [results, Tryz.results23, go_sem, x0', x1']) rfl ⟨_, by rw [HF2.out.1, HF2.out.2], put2x HEf.out HwH.out _ _, fun _ => ⟨B, R, iq, bw, bb, .slice ta2 u tc2, rfl, ?_, Hiq4.out⟩⟩
        rw [HMe.out]
        have := Hend.out
        rw [← Hm.out] at this
        exact this
      | true =>
        obtain ⟨hpl2, o, hoo, hcn, hk5⟩ := hTr rfl
        have hil : iq < ops.length := (List.getElem?_eq_some_iff.1 hoo).1
        have hdr : ops.drop iq = o :: ops.drop (iq + 1) := by
          rw [List.drop_eq_getElem_cons hil, (List.getElem?_eq_some_iff.1 hoo).2]
        have HMo := Lib.hid (show M = plM want (o :: ops.drop (iq + 1)) iq sq bits u by rw [← Hpl.out, hpl2, hdr])
        have Hwl := Lib.hid (show want.length = tn from HTw.out.1)
        have Hoo := Lib.hid hoo; have Hcn := Lib.hid hcn; have Hk5 := Lib.hid hk5
        have Hplf := Lib.hid (Hfit.out bits Hbl.out o (List.mem_of_getElem? hoo)).2
        have Hiql := Lib.hid (show iq < n by have := Hnl.out; omega)
        clear hFa hTr hpl2 hoo hcn hk5 hil hdr
        by_cases hu : u = tn
        · have HMe := Lib.hid (HMo.out.trans (plM_out Hcn.out Hk5.out (by rw [Hwl.out]; exact hu)))
          have HF2 := Lib.hid (show F0 = 19 ∧ F1 = (iq : Int) by
            have := HFF.out
            rw [HMe.out] at this
            exact ⟨(congrArg Prod.fst this).symm, (congrArg Prod.snd this).symm⟩)
          have bq : ((u : Int) == (tn : Int)) = true := by simp [hu]
          clear hu
          go_wp2_with fail
          refine HAs.out.mono ?_
          rintro e w3 ⟨rfl, hr3, _⟩
          have bz := HFw.out.ext hr3.ext; have x0' := bz.x0; have x1' := bz.x1; have g0' := bz.f 0; have g1' := bz.f 1
          have m4 := hr3.c4; have m1 := hr3.c1
          have HEf := Lib.hid (HEz.out.trans hr3.ext)
          clear bz hr3 HAs
          go_upto_region 7 with fail
          go_region
          go_wp2_with fail
          exact bodyPost_ret (v := .tuple #[.pointer none, .agg #[.int .i64 19, .int .i64 (iq : Int)]]) (by simp [results, Tryz.results23, go_sem, x0', x1']) rfl ⟨none, by rw [HF2.out.1, HF2.out.2], Below.drew (put2x HEf.out HwH.out _ _), fun h => absurd (HF2.out.1 ▸ h) (by decide)⟩
        · have hlt : u < tn := by have := Hut.out; omega
          obtain ⟨tb, to', hta, htb, htc⟩ := HTw.out.2.resolve_left (by omega)
          subst hta
          obtain ⟨v, hv⟩ : ∃ v, want.getD u 0 = v := ⟨_, rfl⟩
          have y0 := htc u hlt
          rw [hv] at y0
          have bq : ((u : Int) == (tn : Int)) = false := by simp; omega
          have u0 : (0 : Int) ≤ (u : Int) := by omega
          have u1 : (u : Int) < (tn : Int) := by omega
          have Hv := Lib.hid hv; have Hune := Lib.hid hu
          clear htb htc hu hlt hv
          go_wp2_with fail
          refine HAs.out.mono ?_
          rintro e w3 ⟨rfl, hr3, hiqn⟩
          have bz := HFw.out.ext hr3.ext; have x0' := bz.x0; have x1' := bz.x1; have g0' := bz.f 0; have g1' := bz.f 1
          have m4 := hr3.c4; have m1 := hr3.c1
          have y3 := cellKeep hr3.ext (World.block_lt_of_cell? W1 ⟨tb, to' + u, none⟩ y0) y0
          have HEf := Lib.hid (HEz.out.trans hr3.ext)
          have Hr3 := Lib.hid (show RunA W1 w3 B R ao n cp iq bw (2 ^ qn) (2 ^ qn) bb bits (.slice ta2 u tc2) u sq iq by rw [Hm.out]; exact hr3)
          have Hiqn := Lib.hid hiqn
          clear bz hr3 HAs y0 hiqn
          by_cases hv01 : v = 0 ∨ v = 1
          · clear x0' x1' g0' g1' HEf
            rcases hv01 with rfl | rfl
            · have HMt := Lib.hid (HMo.out.trans (plM_take Hcn.out (by have := Hk5.out; omega) (by rw [Hwl.out]; exact Hune.out) Hv.out (by decide)))
              have HTk := Lib.hid (fun (wx : World) (hx : RunA W1 wx B R ao n cp iq bw (2 ^ qn) (2 ^ qn) bb bits (.slice ta2 u tc2) u sq iq) => take_any W1 wx B R ao n cp iq bw qn (2 ^ qn) bb bits (.slice ta2 u tc2) u sq ops 0 (by decide) o hx HOw.out Hqn.out Hn4.out Hoo.out Hplf.out (by have := Hk5.out; omega) (by have := Hui.out; have := Hiq.out; have := Hiqn.out; have := Hn4.out; omega))
              rw [Hm.out] at HTk
              go_wp2_with fail
              refine (HTk.out w3 (by have h3 := Hr3.out; rw [Hm.out] at h3; exact h3)).mono ?_
              rintro e w4 ⟨⟨x4, rfl⟩, tv4, hr4⟩
              have H4 := Lib.hid hr4
              clear hr4 HTk m4 m1 y3
              go_wp2_with fail
              go_roundg (n + 1 - (iq + 1))
              case measure => have := Hk.out; have := Hiq.out; have := Hiqn.out; omega
              case rel => exact ⟨iq + 1, _, tv4, u + 1, _, by rw [Hm.out]; exact H4.out, by have := Hiql.out; omega, rfl, by rw [tkB_len]; exact Hbl.out, by have := Hui.out; have := Hiq.out; omega, by have := Hune.out; have := Hut.out; omega, HMt.out.symm⟩
            · have HMt := Lib.hid (HMo.out.trans (plM_take Hcn.out (by have := Hk5.out; omega) (by rw [Hwl.out]; exact Hune.out) Hv.out (by decide)))
              have HTk := Lib.hid (fun (wx : World) (hx : RunA W1 wx B R ao n cp iq bw (2 ^ qn) (2 ^ qn) bb bits (.slice ta2 u tc2) u sq iq) => take_any W1 wx B R ao n cp iq bw qn (2 ^ qn) bb bits (.slice ta2 u tc2) u sq ops 1 (by decide) o hx HOw.out Hqn.out Hn4.out Hoo.out Hplf.out (by have := Hk5.out; omega) (by have := Hui.out; have := Hiq.out; have := Hiqn.out; have := Hn4.out; omega))
              rw [Hm.out] at HTk
              go_wp2_with fail
              refine (HTk.out w3 (by have h3 := Hr3.out; rw [Hm.out] at h3; exact h3)).mono ?_
              rintro e w4 ⟨⟨x4, rfl⟩, tv4, hr4⟩
              have H4 := Lib.hid hr4
              clear hr4 HTk m4 m1 y3
              go_wp2_with fail
              go_roundg (n + 1 - (iq + 1))
              case measure => have := Hk.out; have := Hiq.out; have := Hiqn.out; omega
              case rel => exact ⟨iq + 1, _, tv4, u + 1, _, by rw [Hm.out]; exact H4.out, by have := Hiql.out; omega, rfl, by rw [tkB_len]; exact Hbl.out, by have := Hui.out; have := Hiq.out; omega, by have := Hune.out; have := Hut.out; omega, HMt.out.symm⟩
          · have kn0 : (v != 0) = true := by simp; omega
            have kn1 : (v != 1) = true := by simp; omega
            have HMe := Lib.hid (HMo.out.trans (plM_bad Hcn.out (by have := Hk5.out; omega) (by rw [Hwl.out]; exact Hune.out) Hv.out (by omega)))
            have HF2 := Lib.hid (show F0 = 20 ∧ F1 = (iq : Int) by
              have := HFF.out
              rw [HMe.out] at this
              exact ⟨(congrArg Prod.fst this).symm, (congrArg Prod.snd this).symm⟩)
            clear hv01
            go_upto_region 10 with fail
            go_region
            go_wp2_with fail
            exact bodyPost_ret (v := .tuple #[.pointer none, .agg #[.int .i64 20, .int .i64 (iq : Int)]]) (by simp [results, Tryz.results23, go_sem, x0', x1']) rfl ⟨none, by rw [HF2.out.1, HF2.out.2], Below.drew (put2x HEf.out HwH.out _ _), fun h => absurd (HF2.out.1 ▸ h) (by decide)⟩
  · have hcb := nt hc0
    have HFF := Lib.hid (show F0 = f0 ∧ F1 = f1 by
      have := HF.out
      rw [if_pos hc0] at this
      exact ⟨(congrArg Prod.fst this).symm, (congrArg Prod.snd this).symm⟩)
    have Hc0 := Lib.hid hc0
    clear HF hc0 Hz
    go_upto_region 3 with fail
    go_region
    go_wp2_with fail
    exact bodyPost_ret (v := .tuple #[.pointer none, .agg #[.int .i64 f0, .int .i64 f1]]) (by simp [results, Tryz.results23, go_sem, x0', x1']) rfl ⟨none, by rw [HFF.out.1, HFF.out.2], Below.drew (put2x HEz.out HwH.out _ _), fun h => absurd (HFF.out.1 ▸ h) Hc0.out⟩
end Go.Proofs.YtfjnlopbmkimiaaGreatDoor
namespace Go.Proofs.YtfjnlopbmkimiaaGreatDoor
open Go.RowKit

/-- An amplitude as it is written. -/
def txA (z : Nm) : Value := .string ⟨(rtx (nmF z)).toArray⟩
/-- The first i of n texts. -/
def txC (s : Nat → Nm) (n i : Nat) : Array Value := ((List.range n).map fun x => if x < i then txA (s x) else .string ⟨#[]⟩).toArray
theorem txC_get (s : Nat → Nm) {n i x : Nat} (hx : x < n) : (txC s n i)[x]? = some (if x < i then txA (s x) else .string ⟨#[]⟩) := by
  unfold txC
  rw [List.getElem?_toArray, List.getElem?_map, List.getElem?_range hx]
  rfl
theorem txC_set (s : Nat → Nm) {n i : Nat} : (txC s n i).setIfInBounds i (txA (s i)) = txC s n (i + 1) := by
  unfold txC
  rw [List.setIfInBounds_toArray]
  congr 1
  apply List.ext_getElem?
  intro x
  rw [List.getElem?_set, List.getElem?_map, List.getElem?_map]
  by_cases hx : x < n
  · rw [List.getElem?_range hx]
    by_cases e : i = x
    · subst e
      rw [if_pos rfl]
      simp [hx]
    · rw [if_neg e]
      simp only [Option.map_some, Option.some.injEq]
      have : (x < i + 1) = (x < i) := propext (by omega)
      simp only [this]
  · rw [List.getElem?_eq_none (by simp; omega)]
    split
    · rename_i e
      simp
      omega
    · rfl
theorem S_info : (Tryz.prog.info? 9).map (fun i => (i.zero, i.size, i.bytes)) = some (some (.string ⟨#[]⟩), 1, 16) := by kernel_rfl
set_option maxRecDepth 100000 in
/-- 'make([]string, n)'. -/
theorem wpList_make_S (w : World) {ops : Array Oper} {rest : List Oper} {o : Oper} {a : Act} {Q : Exit → Act → World → Prop} (s : Nat → Nm)
    (hg : o.guard = none) (l c : Operand) (hop : o.op = Op.makeSlice 27 l c) (kl kc : IntKind) (L C : Int) (n : Nat) (hl : a.eval l = .int kl L) (hc : a.eval c = .int kc C) (hL : L = (n : Int)) (hC : C = (n : Int)) (b2 : n ≤ 1048576)
    (hK : ∀ w', w'.heap[w.heap.size]? = some (.cells (txC s n 0) 9 (0, 0)) → Ext w w' → wpList Tryz.prog ops Q rest (a.put o.dst (.slice (some ⟨w.heap.size, 0, none⟩) n n)) w') :
    wpList Tryz.prog ops Q (o :: rest) a w := by
  obtain ⟨i0, hi, hz0, hz1, hz2⟩ := info_parts S_info
  refine wpList_make_full w hg l c 27 hop w.heap.size 9 i0 (.string ⟨#[]⟩) 1 Tryz.underlying27 hi hz0 hz1 kl kc L C n hl hc hL hC (by rw [hz2]; omega) (by unfold maxLen; omega) (Nat.le_refl _) ?_
  intro w' hown hgrow
  have key : w'.heap[w.heap.size]? = some (.cells (txC s n 0) 9 (0, 0)) := by
    obtain ⟨_, h | ⟨g, cap, cur, hv, _, hh, _, _, hsz, ht⟩⟩ := hown
    · simp at h
    · simp only [Value.slice.injEq, Option.some.injEq, Addr.mk.injEq, and_true, true_and] at hv
      obtain ⟨hg, rfl⟩ := hv
      subst hg
      rw [hh]
      congr 2
      apply Array.toList_inj.1
      have e1 : cur.toList.take (n * 1) = cur.toList := List.take_of_length_le (by rw [Array.length_toList, hsz]; exact Nat.le_refl _)
      rw [e1] at ht
      rw [ht]
      unfold txC
      simp [Value.cells, toList_madeCells_one, List.map_const']
  exact hK w' key ((Below.refl _ _).grown hgrow (Nat.le_refl _) (fun k h => by cases h))

set_option maxRecDepth 100000 in
set_option maxHeartbeats 4000000 in
theorem texts_any (b n cp : Nat) (s : Nat → Nm) (N : Nat) (w : World) (h : WvA w b n s N) (hn : n ≤ 4096) (hN : N ≤ 10000) (hT : Ten w) :
    Calls Tryz.prog 24 #[.slice (some ⟨b, 0, none⟩) n cp] w fun e w' => ∃ g, e = .returned (.slice (some ⟨g, 0, none⟩) n n) ∧ w'.heap[g]? = some (.cells (txC s n n) 9 (0, 0)) ∧ w.heap.size ≤ g ∧ Ext w w' := by
  have Hh := Lib.hid h; have HN := Lib.hid hN; have HT := Lib.hid hT; have Hn := Lib.hid hn
  clear h hN hT
  go_enter Tryz.func24, Tryz.ntmps24
  go_wp2_with (refine wpList_make_S w s rfl _ _ rfl .i64 .i64 (n : Int) (n : Int) n rfl rfl rfl rfl (by omega) ?_; intro w1 hr1 hE1)
  obtain ⟨G, hG⟩ : ∃ G, w.heap.size = G := ⟨_, rfl⟩
  rw [hG] at hr1 ⊢
  have HG := Lib.hid hG; have Hr1 := Lib.hid hr1; have HE1 := Lib.hid hE1
  clear hG hr1 hE1 hn
  go_loopg [4, 10] n (fun kk _ sx wr => ∃ i : Nat, sx = .int .i64 (i : Int) ∧ i ≤ n ∧ n - i = kk ∧ wr.heap[G]? = some (.cells (txC s n i) 9 (0, 0)) ∧ Ext w wr)
  case atStart => exact ⟨0, rfl, Nat.zero_le _, rfl, Hr1.out, HE1.out⟩
  case round =>
    obtain ⟨i, rfl, hi, hk, hr, hE⟩ := hrel
    have Hr := Lib.hid hr; have HE := Lib.hid hE; have Hk := Lib.hid hk
    clear hr hE hk
    by_cases hin : i = n
    · have q1 : ¬ (i : Int) < (n : Int) := by omega
      have Hend := Lib.hid (show wr.heap[G]? = some (.cells (txC s n n) 9 (0, 0)) ∧ w.heap.size ≤ G ∧ Ext w wr from ⟨by rw [← hin]; rw [← hin] at Hr; exact Hr.out, by rw [HG.out]; exact Nat.le_refl _, HE.out⟩)
      clear hin hi
      go_wp2_with fail
      go_ret
      exact ⟨_, rfl, Hend.out⟩
    have hlt : i < n := by omega
    have q1 : (i : Int) < (n : Int) := by omega
    have q0 : (0 : Int) ≤ (i : Int) := by omega
    have wk : IntKind.i64.wrap ((i : Int) + 1) = ((i + 1 : Nat) : Int) := by rw [IntKind.wrap_i64]; have := Hn.out; omega
    have Hlt := Lib.hid hlt
    clear hin hi hlt
    go_wp2_with fail
    refine (at_any s n b cp i _ _ wr (Hh.out.at'.ext HE.out) Hlt.out).mono ?_
    rintro e w2 ⟨ca, rfl, hca, hE2⟩
    have Hca := Lib.hid hca; have HE2 := Lib.hid hE2
    clear hca hE2
    go_wp2_with fail
    refine (RText_nm ca _ _ _ w2 Hca.out 1000 (by decide) (by decide) (by have := HN.out; omega) (by have := HN.out; omega) (tab_ext HT.out (HE.out.trans HE2.out))).mono ?_
    rintro e w3 ⟨rfl, hE3⟩
    have hE23 := HE2.out.trans hE3
    have r3 := (hE23.block G (Array.getElem?_eq_some_iff.1 Hr.out).1).trans Hr.out
    have y3 : w3.cell? ⟨G, i, none⟩ = some (.string ⟨#[]⟩) := by
      rw [cell_of_row w3 G i _ _ (0, 0) r3, txC_get s Hlt.out, if_neg (by omega)]
    have f3 := frozen_of_row w3 G i _ _ r3
    have Hend := Lib.hid (show (w3.setCell ⟨G, i, none⟩ (.string ⟨(rtx (nmF (s i))).toArray⟩)).heap[G]? = some (.cells (txC s n (i + 1)) 9 (0, 0)) ∧ Ext w (w3.setCell ⟨G, i, none⟩ (.string ⟨(rtx (nmF (s i))).toArray⟩)) from ⟨by
      rw [heap_setCell_same w3 G i _ _ _ r3]
      congr 2
      exact txC_set s, Ext.put (HE.out.trans hE23) (by rw [HG.out]; exact Nat.le_refl _) _⟩)
    clear r3 hE23 hE3 Hca
    go_wp2_with fail
    go_roundg (n - (i + 1))
    case measure => have := Hk.out; have := Hlt.out; omega
    case rel => exact ⟨i + 1, rfl, Hlt.out, rfl, Hend.out⟩
end Go.Proofs.YtfjnlopbmkimiaaGreatDoor
namespace Go.Proofs.YtfjnlopbmkimiaaGreatDoor
open Go.RowKit

theorem shot_info : (Tryz.prog.info? 29).map (·.size) = some 3 := by kernel_rfl
/-- What a run answers: amplitudes as they are written, bits, how many outcomes. -/
def ShA (w : World) (cs : Array Value) (n : Nat) (M : Sho) : Prop := ∃ g bb, cs = #[.slice (some ⟨g, 0, none⟩) n n, .slice (some ⟨bb, 0, none⟩) M.bits.length M.bits.length, .int .i64 (M.u : Int)] ∧ w.heap[g]? = some (.cells (txC M.s n n) 9 (0, 0)) ∧ w.heap[bb]? = some (.cells (bC M.bits) 3 (0, 0))
theorem plM_zero (want : List Int) : ∀ (ops : List Gop) (i : Nat) (s : Nat → Nm) (bits : List Int) (u : Nat), (plM want ops i s bits u).f.1 = 0 → (plM want ops i s bits u).f.2 = 0
  | [], _, _, _, _, _ => rfl
  | o :: r, i, s, bits, u, h => by
    revert h
    have ih := plM_zero want r
    rw [plM]
    split
    · exact ih _ _ _ _
    split
    · exact ih _ _ _ _
    split
    · intro h; simp at h
    split
    · intro h; simp at h
    split
    · exact ih _ _ _ _
    split
    · exact ih _ _ _ _
    · exact ih _ _ _ _
def noSh : Array Value := #[.slice none 0 0, .slice none 0 0, .int .i64 0]

set_option maxRecDepth 100000 in
set_option maxHeartbeats 8000000 in
theorem Run_any (c : Gci) (ao : Option Addr) (n cp : Nat) (x : Int) (ta : Option Addr) (tn tc : Nat) (want : List Int) (w : World) (h : OpsAt w ao n c.ops) (hn : n ≤ cp) (hcp : cp ≤ 9223372036854775807) (hT : IntsAt w ta tn want) (hS : Shp w) (hbr : Bru w) (hTen : Ten w) :
    Calls Tryz.prog 6 #[.agg #[.int .i64 c.qubits, .int .i64 c.bits, .slice ao n cp], .int .i64 x, .slice ta tn tc] w fun e w' => ∃ cs, e = .returned (.tuple #[.agg cs, .agg #[.int .i64 (shoF c x want).1, .int .i64 (shoF c x want).2]]) ∧ Ext w w' ∧
      ((shoF c x want).1 = 0 → ShA w' cs (2 ^ c.qubits.toNat) (shoR c x want)) ∧ ((shoF c x want).1 ≠ 0 → cs = noSh) := by
  obtain ⟨F, hF⟩ : ∃ F, shoF c x want = F := ⟨_, rfl⟩
  obtain ⟨F0, F1⟩ := F
  obtain ⟨M, hM⟩ : ∃ M, shoR c x want = M := ⟨_, rfl⟩
  have hq4 : F0 = 0 → 2 ^ c.qubits.toNat ≤ 4096 := by
    intro h0
    have h1 : (chk c).1 = 0 := by
      unfold shoF stF at hF
      by_cases hc : (chk c).1 = 0
      · exact hc
      · rw [if_pos hc, if_pos hc] at hF
        exact absurd ((congrArg Prod.fst hF).trans h0) hc
    obtain ⟨_, _, h2, _⟩ := chk_zero h1
    exact Nat.le_trans (Nat.pow_le_pow_right (by decide) (show c.qubits.toNat ≤ 12 by omega)) (by decide)
  have hf1z : F0 = 0 → F1 = 0 := by
    intro h0
    unfold shoF at hF
    rw [hM] at hF
    have hplz : ∀ (ops : List Gop) (i : Nat) (s : Nat → Nm) (bits : List Int) (u : Nat), (plM want ops i s bits u).f.1 = 0 → (plM want ops i s bits u).f.2 = 0 := plM_zero want
    by_cases hc : (stF c x).1 = 0
    · rw [if_neg (by simp [hc])] at hF
      have h1 := congrArg Prod.fst hF; have h2 := congrArg Prod.snd hF
      rw [← hM] at h1 h2
      unfold shoR at h1 h2
      have := hplz _ _ _ _ _ (h1.trans h0)
      rw [this] at h2
      exact h2.symm
    · rw [if_pos hc] at hF
      exact absurd ((congrArg Prod.fst hF).trans h0) hc
  obtain ⟨m, hm⟩ : ∃ m, 2 ^ c.qubits.toNat = m := ⟨_, rfl⟩
  rw [hm] at hq4
  obtain ⟨H, hH⟩ : ∃ H, w.heap.size = H := ⟨_, rfl⟩
  obtain ⟨W, hW⟩ : ∃ W, ((w.alloc (.cells #[.int .i64 c.qubits, .int .i64 c.bits, .slice ao n cp] 24)).alloc (.cells #[.slice none 0 0, .slice none 0 0, .int .i64 0] 29)).alloc (.cells #[.int .i64 0, .int .i64 0] 31) = W := ⟨_, rfl⟩
  have E0 : Ext w W := by rw [← hW]; exact ((ext_al w _).trans (ext_al _ _)).trans (ext_al _ _)
  have bCi : CiB W H c.qubits c.bits ao n cp := by rw [← hW, ← hH]; exact CiB.ext (CiB.ext ⟨heap_alloc_new w _⟩ (ext_al _ _)) (ext_al _ _)
  have rS : W.heap[H + 1]? = some (.cells #[.slice none 0 0, .slice none 0 0, .int .i64 0] 29 (0, 0)) := by
    have h1 := heap_alloc_new (w.alloc (.cells #[.int .i64 c.qubits, .int .i64 c.bits, .slice ao n cp] 24)) (.cells #[.slice none 0 0, .slice none 0 0, .int .i64 0] 29)
    have h2 := ((ext_al ((w.alloc (.cells #[.int .i64 c.qubits, .int .i64 c.bits, .slice ao n cp] 24)).alloc (.cells #[.slice none 0 0, .slice none 0 0, .int .i64 0] 29)) (.cells #[.int .i64 0, .int .i64 0] 31)).block _ (Array.getElem?_eq_some_iff.1 h1).1).trans h1
    rw [World.size_alloc] at h2
    rw [← hW, ← hH]; exact h2
  have bF : FtB W (H + 2) 0 0 := ⟨by
    have h1 := heap_alloc_new ((w.alloc (.cells #[.int .i64 c.qubits, .int .i64 c.bits, .slice ao n cp] 24)).alloc (.cells #[.slice none 0 0, .slice none 0 0, .int .i64 0] 29)) (.cells #[.int .i64 0, .int .i64 0] 31)
    rw [World.size_alloc, World.size_alloc] at h1
    rw [← hW, ← hH]; exact h1⟩
  have m0 := bCi.x0; have m1 := bCi.x1; have m2 := bCi.x2
  have HP := Lib.hid (play_any c ao n cp x ta tn tc want W (h.ext E0) hn hcp (hT.ext E0) (hS.ext E0) (bru_ext hbr E0))
  rw [hF, hM, hm] at HP
  rw [hF, hM, hm]
  obtain ⟨qb, bi, ops⟩ := c
  simp only at m0 m1 m2 HP hW ⊢
  have HE0 := Lib.hid E0; have HH := Lib.hid hH; have HW := Lib.hid hW; have HrS := Lib.hid rS; have HbF := Lib.hid bF; have HTen := Lib.hid (tab_ext hTen E0); have Hq4 := Lib.hid hq4; have Hf1z0 := Lib.hid hf1z
  have HwH := Lib.hid (show w.heap.size ≤ H by omega)
  clear h hT hS hbr hTen hF hM hm hH hW E0 bCi rS bF hq4 hf1z
  go_enter Tryz.func6, Tryz.ntmps6
  go_upto_region 1 with fail
  rw [HW.out, HH.out]
  go_wp2_with fail
  refine HP.out.mono ?_
  rintro e w1 ⟨p, rfl, hx1, hrun⟩
  have Ef := ext_al w1 (.cells #[.int .i64 F0, .int .i64 F1] 31)
  have bf1 : FtB (w1.alloc (.cells #[.int .i64 F0, .int .i64 F1] 31)) w1.heap.size F0 F1 := ⟨heap_alloc_new w1 _⟩
  have q0 := bf1.x0; have q1 := bf1.x1
  have HX1 := Lib.hid (hx1.trans Ef); have HX0 := Lib.hid hx1
  have bz := HbF.out.ext HX1.out; have x0' := bz.x0; have x1' := bz.x1; have g0' := bz.f 0; have g1' := bz.f 1
  have rS := (HX1.out.block _ (Array.getElem?_eq_some_iff.1 HrS.out).1).trans HrS.out
  have HrS1 := Lib.hid rS; have Hbz := Lib.hid bz; have Hef := Lib.hid Ef
  have s0 : (w1.alloc (.cells #[.int .i64 F0, .int .i64 F1] 31)).cell? ⟨H + 1, 0, none⟩ = some (.slice none 0 0) := by rw [cell_of_row _ _ 0 _ _ (0, 0) rS]; rfl
  have s1 : (w1.alloc (.cells #[.int .i64 F0, .int .i64 F1] 31)).cell? ⟨H + 1, 1, none⟩ = some (.slice none 0 0) := by rw [cell_of_row _ _ 1 _ _ (0, 0) rS]; rfl
  have s2 : (w1.alloc (.cells #[.int .i64 F0, .int .i64 F1] 31)).cell? ⟨H + 1, 2, none⟩ = some (.int .i64 0) := by rw [cell_of_row _ _ 2 _ _ (0, 0) rS]; rfl
  have t0 := frozen_of_row _ (H + 1) 0 _ _ rS; have t1 := frozen_of_row _ (H + 1) 1 _ _ rS; have t2 := frozen_of_row _ (H + 1) 2 _ _ rS
  have HEz := Lib.hid (HE0.out.trans HX1.out)
  have Hrun := Lib.hid hrun
  clear bz m0 m1 m2 hx1 Ef bf1 HP HH HW rS hrun
  by_cases hc0 : F0 = 0
  · have hcb := nf' hc0
    obtain ⟨B, R, i, bw, bb, tv, rfl, hr, hi4⟩ := Hrun.out hc0
    obtain ⟨ta2, tc2, rfl⟩ := run_tape hr
    have Hq := Lib.hid (Hq4.out hc0)
    have Hr := Lib.hid (hr.ext' Hef.out); have Hi4 := Lib.hid hi4
    have Hc0 := Lib.hid hc0; have Hf1z : F1 = 0 := Hf1z0.out hc0
    have HF1 := Lib.hid Hf1z
    clear hr Hrun hc0 hi4 q1 Hf1z Hf1z0
    go_upto_region 4 with fail
    clear s0 s1 s2 t0 t1 t2 x0' x1' g0' g1' q0
    generalize w1.alloc (.cells #[.int .i64 F0, .int .i64 F1] 31) = W1 at *
    generalize w1.heap.size = FB at *
    have c2 := Hr.out.c2; have c3 := Hr.out.c3; have c4 := Hr.out.c4
    have lR := World.block_lt_of_cell? W1 ⟨R, 2, none⟩ c2
    have d0 : Ext W1 W1.drew := Below.drew (Ext.refl _)
    have HTx := Lib.hid (texts_any bw m m M.s i W1.drew (Hr.out.wav.ext d0) Hq.out (by have := Hi4.out; omega) (tab_ext HTen.out (HX1.out.trans d0)))
    obtain ⟨nb, hnb⟩ : ∃ nb, M.bits.length = nb := ⟨_, rfl⟩
    obtain ⟨uu, huu⟩ : ∃ uu, M.u = uu := ⟨_, rfl⟩
    rw [hnb] at c3
    rw [huu] at c4
    have Hnb := Lib.hid hnb; have Huu := Lib.hid huu
    clear hnb huu
    refine wp_region_any (by kernel_rfl) (anyT_plain (k := 99) (S := fun w' => True) (T := fun w' => (w'.cell? ⟨R, 2, none⟩ = some (.slice (some ⟨bw, 0, none⟩) m m) ∧ w'.cell? ⟨R, 3, none⟩ = some (.slice (some ⟨bb, 0, none⟩) nb nb)) ∧ w'.cell? ⟨R, 4, none⟩ = some (.slice ta2 uu tc2)) _ _ _ _ ?_)
    show anyT _ _ _ _ _ _ _ 18 #[false, false, false, false, false, false, false, false, false, false, false, false, false, false, false, false, false, false] _ _
    have hT : (W1.drew.cell? ⟨R, 2, none⟩ = some (.slice (some ⟨bw, 0, none⟩) m m) ∧ W1.drew.cell? ⟨R, 3, none⟩ = some (.slice (some ⟨bb, 0, none⟩) nb nb)) ∧ W1.drew.cell? ⟨R, 4, none⟩ = some (.slice ta2 uu tc2) := ⟨⟨cellKeep d0 lR c2, cellKeep d0 lR c3⟩, cellKeep d0 lR c4⟩
    have hHeld : True := trivial
    refine anyT_takeT (i := 0) (v := ?_) rfl (by decide) (by kernel_rfl) (by kernel_rfl) (by kernel_rfl) (fun _ _ _ h => h) (Or.inl ⟨by rfl, ?_⟩) hT (fun _ => hHeld) ?_
    rotate_left 1
    · intro w hSw
      go_simp
      try with_reducible rfl
    show anyT _ _ _ _ _ _ _ _ _ (Act.put _ (some 22) _) _
    simp only [Act.put, List.setIfInBounds_toArray, List.set_cons_zero, List.set_cons_succ]
    refine anyT_takeT (i := 1) (v := ?_) rfl (by decide) (by kernel_rfl) (by kernel_rfl) (by kernel_rfl) (fun _ _ _ h => h) (Or.inl ⟨by rfl, ?_⟩) hT (fun _ => hHeld) ?_
    rotate_left 1
    · intro w hSw
      go_simp
      try with_reducible rfl
    show anyT _ _ _ _ _ _ _ _ _ (Act.put _ (some 23) _) _
    simp only [Act.put, List.setIfInBounds_toArray, List.set_cons_zero, List.set_cons_succ]
    refine anyT_takeT (i := 2) (v := ?_) rfl (by decide) (by kernel_rfl) (by kernel_rfl) (by kernel_rfl) (fun _ _ _ h => h) (Or.inl ⟨by rfl, ?_⟩) hT (fun _ => hHeld) ?_
    rotate_left 1
    · intro w hSw
      go_simp
      try with_reducible rfl
    show anyT _ _ _ _ _ _ _ _ _ (Act.put _ (some 24) _) _
    simp only [Act.put, List.setIfInBounds_toArray, List.set_cons_zero, List.set_cons_succ]
    refine anyT_takeT (i := 3) (v := ?_) rfl (by decide) (by kernel_rfl) (by kernel_rfl) (by kernel_rfl) (fun _ _ _ h => h) (Or.inl ⟨by rfl, ?_⟩) hT (fun _ => hHeld) ?_
    rotate_left 1
    · intro w hSw
      go_simp
      try with_reducible rfl
    show anyT _ _ _ _ _ _ _ _ _ (Act.put _ (some 25) _) _
    simp only [Act.put, List.setIfInBounds_toArray, List.set_cons_zero, List.set_cons_succ]
    refine anyT_takeT (i := 5) (v := ?_) rfl (by decide) (by kernel_rfl) (by kernel_rfl) (by kernel_rfl) (fun _ _ _ h => h) (Or.inl ⟨by rfl, ?_⟩) hT (fun _ => hHeld) ?_
    rotate_left 1
    · intro w hSw
      go_simp
      try with_reducible rfl
    show anyT _ _ _ _ _ _ _ _ _ (Act.put _ (some 27) _) _
    simp only [Act.put, List.setIfInBounds_toArray, List.set_cons_zero, List.set_cons_succ]
    refine anyT_takeT (i := 6) (v := ?_) rfl (by decide) (by kernel_rfl) (by kernel_rfl) (by kernel_rfl) (fun _ _ _ h => h) (Or.inl ⟨by rfl, ?_⟩) hT (fun _ => hHeld) ?_
    rotate_left 1
    · intro w hSw
      go_simp
      try with_reducible rfl
    show anyT _ _ _ _ _ _ _ _ _ (Act.put _ (some 28) _) _
    simp only [Act.put, List.setIfInBounds_toArray, List.set_cons_zero, List.set_cons_succ]
    refine anyT_takeT (i := 7) (v := ?_) rfl (by decide) (by kernel_rfl) (by kernel_rfl) (by kernel_rfl) (fun _ _ _ h => h) (Or.inl ⟨by rfl, ?_⟩) hT (fun _ => hHeld) ?_
    rotate_left 1
    · intro w hSw
      go_simp
      try with_reducible rfl
    show anyT _ _ _ _ _ _ _ _ _ (Act.put _ (some 29) _) _
    simp only [Act.put, List.setIfInBounds_toArray, List.set_cons_zero, List.set_cons_succ]
    refine anyT_takeT (i := 8) (v := ?_) rfl (by decide) (by kernel_rfl) (by kernel_rfl) (by kernel_rfl) (fun _ _ _ h => h) (Or.inl ⟨by rfl, ?_⟩) hT (fun _ => hHeld) ?_
    rotate_left 1
    · intro w hSw
      go_simp
      try with_reducible rfl
    show anyT _ _ _ _ _ _ _ _ _ (Act.put _ (some 30) _) _
    simp only [Act.put, List.setIfInBounds_toArray, List.set_cons_zero, List.set_cons_succ]
    refine anyT_takeT (i := 9) (v := ?_) rfl (by decide) (by kernel_rfl) (by kernel_rfl) (by kernel_rfl) (fun _ _ _ h => h) (Or.inl ⟨by rfl, ?_⟩) hT (fun _ => hHeld) ?_
    rotate_left 1
    · intro w hSw
      go_simp
      try with_reducible rfl
    show anyT _ _ _ _ _ _ _ _ _ (Act.put _ (some 31) _) _
    simp only [Act.put, List.setIfInBounds_toArray, List.set_cons_zero, List.set_cons_succ]
    refine anyT_takeT (i := 10) (v := ?_) rfl (by decide) (by kernel_rfl) (by kernel_rfl) (by kernel_rfl) (fun _ _ _ h => h) (Or.inl ⟨by rfl, ?_⟩) hT (fun _ => hHeld) ?_
    rotate_left 1
    · intro w hSw
      go_simp
      try with_reducible rfl
    show anyT _ _ _ _ _ _ _ _ _ (Act.put _ (some 32) _) _
    simp only [Act.put, List.setIfInBounds_toArray, List.set_cons_zero, List.set_cons_succ]
    refine anyT_takeT (i := 11) (v := ?_) rfl (by decide) (by kernel_rfl) (by kernel_rfl) (by kernel_rfl) (fun _ _ _ h => h) (Or.inl ⟨by rfl, ?_⟩) hT (fun _ => hHeld) ?_
    rotate_left 1
    · intro w hSw
      go_simp
      try with_reducible rfl
    show anyT _ _ _ _ _ _ _ _ _ (Act.put _ (some 33) _) _
    simp only [Act.put, List.setIfInBounds_toArray, List.set_cons_zero, List.set_cons_succ]
    refine anyT_takeT (i := 12) (v := ?_) rfl (by decide) (by kernel_rfl) (by kernel_rfl) (by kernel_rfl) (fun _ _ _ h => h) (Or.inl ⟨by rfl, ?_⟩) hT (fun _ => hHeld) ?_
    rotate_left 1
    · intro w hSw
      go_simp
      try with_reducible rfl
    show anyT _ _ _ _ _ _ _ _ _ (Act.put _ (some 34) _) _
    simp only [Act.put, List.setIfInBounds_toArray, List.set_cons_zero, List.set_cons_succ]
    refine anyT_takeT (i := 13) (v := ?_) rfl (by decide) (by kernel_rfl) (by kernel_rfl) (by kernel_rfl) (fun _ _ _ h => h) (Or.inl ⟨by rfl, ?_⟩) hT (fun _ => hHeld) ?_
    rotate_left 1
    · intro w hSw
      go_simp
      try with_reducible rfl
    show anyT _ _ _ _ _ _ _ _ _ (Act.put _ (some 35) _) _
    simp only [Act.put, List.setIfInBounds_toArray, List.set_cons_zero, List.set_cons_succ]
    refine anyT_takeT (i := 15) (v := ?_) rfl (by decide) (by kernel_rfl) (by kernel_rfl) (by kernel_rfl) (fun _ _ _ h => h) (Or.inl ⟨by rfl, ?_⟩) hT (fun _ => hHeld) ?_
    rotate_left 1
    · intro w hSw
      go_simp
      try with_reducible rfl
    show anyT _ _ _ _ _ _ _ _ _ (Act.put _ (some 37) _) _
    simp only [Act.put, List.setIfInBounds_toArray, List.set_cons_zero, List.set_cons_succ]
    clear hT hHeld
    refine anyT_one (i := 4) (by kernel_rfl) rfl (fun Kk hKk => ?_)
    go_simp
    (go_at_call 24; refine HTx.out.mono ?_; rintro e w2 ⟨g, rfl, hg, hgs, hx2⟩)
    have he := d0.trans hx2
    go_wp2_with fail
    refine hKk.out _ _ (⟨⟨cellKeep he lR c2, cellKeep he lR c3⟩, cellKeep he lR c4⟩) (fun _ => trivial) ?_
    clear hKk Kk
    simp only [List.setIfInBounds_toArray, List.set_cons_zero, List.set_cons_succ]
    have hT : (w2.cell? ⟨R, 2, none⟩ = some (.slice (some ⟨bw, 0, none⟩) m m) ∧ w2.cell? ⟨R, 3, none⟩ = some (.slice (some ⟨bb, 0, none⟩) nb nb)) ∧ w2.cell? ⟨R, 4, none⟩ = some (.slice ta2 uu tc2) := ⟨⟨cellKeep he lR c2, cellKeep he lR c3⟩, cellKeep he lR c4⟩
    have hHeld : True := trivial
    refine anyT_takeT (i := 14) (v := ?_) rfl (by decide) (by kernel_rfl) (by kernel_rfl) (by kernel_rfl) (fun _ _ _ h => h) (Or.inl ⟨by rfl, ?_⟩) hT (fun _ => hHeld) ?_
    rotate_left 1
    · intro w hSw
      go_simp
      try with_reducible rfl
    show anyT _ _ _ _ _ _ _ _ _ (Act.put _ (some 36) _) _
    simp only [Act.put, List.setIfInBounds_toArray, List.set_cons_zero, List.set_cons_succ]
    clear hT hHeld
    have r6 := (he.block _ (Array.getElem?_eq_some_iff.1 HrS1.out).1).trans HrS1.out
    have r7 := (he.block _ (Array.getElem?_eq_some_iff.1 Hbz.out.row).1).trans Hbz.out.row
    have rb := (he.block _ (Array.getElem?_eq_some_iff.1 Hr.out.bit).1).trans Hr.out.bit
    have rR := (he.block _ (Array.getElem?_eq_some_iff.1 Hr.out.row).1).trans Hr.out.row
    have o6 := setRow_only w2 (H + 1) #[.slice (some ⟨g, 0, none⟩) m m, .slice (some ⟨bb, 0, none⟩) nb nb, .int .i64 (uu : Int)]
    have k6 := setRow_heap w2 (H + 1) _ #[.slice (some ⟨g, 0, none⟩) m m, .slice (some ⟨bb, 0, none⟩) nb nb, .int .i64 (uu : Int)] _ _ r6
    have o7 := setRow_only (w2.setRow (H + 1) #[.slice (some ⟨g, 0, none⟩) m m, .slice (some ⟨bb, 0, none⟩) nb nb, .int .i64 (uu : Int)]) (H + 2) #[.int .i64 0, .int .i64 0]
    have r7' := (o6.block (H + 2) (by omega)).trans r7
    have k7 := setRow_heap (w2.setRow (H + 1) #[.slice (some ⟨g, 0, none⟩) m m, .slice (some ⟨bb, 0, none⟩) nb nb, .int .i64 (uu : Int)]) (H + 2) _ #[.int .i64 0, .int .i64 0] _ _ r7'
    have k6' := (o7.block (H + 1) (by omega)).trans k6
    have n1 : R ≠ H + 1 ∧ R ≠ H + 2 ∧ bb ≠ H + 1 ∧ bb ≠ H + 2 ∧ g ≠ H + 1 ∧ g ≠ H + 2 := by
      have e1 := (Array.getElem?_eq_some_iff.1 HrS1.out).1; have e2 := Hbz.out.lt; have e3 := d0.size
      refine ⟨?_, ?_, ?_, ?_, by omega, by omega⟩
      · rintro rfl; rw [rR] at r6; injection r6 with r6; injection r6 with _ r6 _; exact absurd r6 (by decide)
      · rintro rfl; rw [rR] at r7; injection r7 with r7; injection r7 with _ r7 _; exact absurd r7 (by decide)
      · rintro rfl; rw [rb] at r6; injection r6 with r6; injection r6 with _ r6 _; exact absurd r6 (by decide)
      · rintro rfl; rw [rb] at r7; injection r7 with r7; injection r7 with _ r7 _; exact absurd r7 (by decide)
    have kg := (o7.block g n1.2.2.2.2.2).trans ((o6.block g n1.2.2.2.2.1).trans hg)
    have kb := (o7.block bb n1.2.2.2.1).trans ((o6.block bb n1.2.2.1).trans rb)
    have kR := (o6.block R n1.1).trans rR
    have kR' := (o7.block R n1.2.1).trans kR
    have tS1 : ((w2.setRow (H + 1) #[.slice (some ⟨g, 0, none⟩) m m, .slice (some ⟨bb, 0, none⟩) nb nb, .int .i64 (uu : Int)]).cell? ⟨R, 2, none⟩ = some (.slice (some ⟨bw, 0, none⟩) m m) ∧ (w2.setRow (H + 1) #[.slice (some ⟨g, 0, none⟩) m m, .slice (some ⟨bb, 0, none⟩) nb nb, .int .i64 (uu : Int)]).cell? ⟨R, 3, none⟩ = some (.slice (some ⟨bb, 0, none⟩) nb nb)) ∧ (w2.setRow (H + 1) #[.slice (some ⟨g, 0, none⟩) m m, .slice (some ⟨bb, 0, none⟩) nb nb, .int .i64 (uu : Int)]).cell? ⟨R, 4, none⟩ = some (.slice ta2 uu tc2) := ⟨⟨by rw [cell_of_row _ R 2 _ _ (0, 0) kR]; rfl, by rw [cell_of_row _ R 3 _ _ (0, 0) kR, ← Hnb.out]; rfl⟩, by rw [cell_of_row _ R 4 _ _ (0, 0) kR, ← Huu.out]; rfl⟩
    have tS2 : (((w2.setRow (H + 1) #[.slice (some ⟨g, 0, none⟩) m m, .slice (some ⟨bb, 0, none⟩) nb nb, .int .i64 (uu : Int)]).setRow (H + 2) #[.int .i64 0, .int .i64 0]).cell? ⟨R, 2, none⟩ = some (.slice (some ⟨bw, 0, none⟩) m m) ∧ ((w2.setRow (H + 1) #[.slice (some ⟨g, 0, none⟩) m m, .slice (some ⟨bb, 0, none⟩) nb nb, .int .i64 (uu : Int)]).setRow (H + 2) #[.int .i64 0, .int .i64 0]).cell? ⟨R, 3, none⟩ = some (.slice (some ⟨bb, 0, none⟩) nb nb)) ∧ ((w2.setRow (H + 1) #[.slice (some ⟨g, 0, none⟩) m m, .slice (some ⟨bb, 0, none⟩) nb nb, .int .i64 (uu : Int)]).setRow (H + 2) #[.int .i64 0, .int .i64 0]).cell? ⟨R, 4, none⟩ = some (.slice ta2 uu tc2) := ⟨⟨by rw [cell_of_row _ R 2 _ _ (0, 0) kR']; rfl, by rw [cell_of_row _ R 3 _ _ (0, 0) kR', ← Hnb.out]; rfl⟩, by rw [cell_of_row _ R 4 _ _ (0, 0) kR', ← Huu.out]; rfl⟩
    have hE9 : Ext w ((w2.setRow (H + 1) #[.slice (some ⟨g, 0, none⟩) m m, .slice (some ⟨bb, 0, none⟩) nb nb, .int .i64 (uu : Int)]).setRow (H + 2) #[.int .i64 0, .int .i64 0]) := by
      have a1 := (HEz.out.trans he); have a2 := HwH.out
      refine ⟨o7.os.trans (o6.os.trans a1.os), o7.tape.trans (o6.tape.trans a1.tape), o7.output.trans (o6.output.trans a1.output), by rw [o7.size, o6.size]; exact a1.size, fun k hk => ?_⟩
      exact (o7.block k (by omega)).trans ((o6.block k (by omega)).trans (a1.block k hk))
    have Hend := Lib.hid (show ShA ((w2.setRow (H + 1) #[.slice (some ⟨g, 0, none⟩) m m, .slice (some ⟨bb, 0, none⟩) nb nb, .int .i64 (uu : Int)]).setRow (H + 2) #[.int .i64 0, .int .i64 0]) #[.slice (some ⟨g, 0, none⟩) m m, .slice (some ⟨bb, 0, none⟩) nb nb, .int .i64 (uu : Int)] m M from ⟨g, bb, by rw [Hnb.out, Huu.out], kg, kb⟩)
    have HE9 := Lib.hid hE9
    refine anyT_one (i := 16) (by kernel_rfl) rfl (fun Kk hKk => ?_)
    refine stepK_storeR rfl rfl 29 _ _ rfl (H + 1) #[.slice (some ⟨g, 0, none⟩) m m, .slice (some ⟨bb, 0, none⟩) nb nb, .int .i64 (uu : Int)] rfl rfl 29 _ r6 shot_info rfl (by simp [Value.oneCell']) ?_
    refine hKk.out _ _ tS1 (fun _ => trivial) ?_
    clear hKk Kk
    refine anyT_one (i := 17) (by kernel_rfl) rfl (fun Kk hKk => ?_)
    refine stepK_storeR rfl rfl 31 _ _ rfl (H + 2) #[.int .i64 0, .int .i64 0] rfl rfl 31 _ r7' fault_info rfl (fault_one _ _) ?_
    refine hKk.out _ _ tS2 (fun _ => trivial) ?_
    clear hKk Kk
    refine anyT_done (by kernel_rfl) ?_ _
    generalize (w2.setRow (H + 1) #[.slice (some ⟨g, 0, none⟩) m m, .slice (some ⟨bb, 0, none⟩) nb nb, .int .i64 (uu : Int)]).setRow (H + 2) #[.int .i64 0, .int .i64 0] = W9 at *
    have z0 : W9.cell? ⟨H + 1, 0, none⟩ = some (.slice (some ⟨g, 0, none⟩) m m) := by rw [cell_of_row _ _ 0 _ _ (0, 0) k6']; rfl
    have z1 : W9.cell? ⟨H + 1, 1, none⟩ = some (.slice (some ⟨bb, 0, none⟩) nb nb) := by rw [cell_of_row _ _ 1 _ _ (0, 0) k6']; rfl
    have z2 : W9.cell? ⟨H + 1, 2, none⟩ = some (.int .i64 (uu : Int)) := by rw [cell_of_row _ _ 2 _ _ (0, 0) k6']; rfl
    have z3 : W9.cell? ⟨H + 2, 0, none⟩ = some (.int .i64 0) := by rw [cell_of_row _ _ 0 _ _ (0, 0) k7]; rfl
    have z4 : W9.cell? ⟨H + 2, 1, none⟩ = some (.int .i64 0) := by rw [cell_of_row _ _ 1 _ _ (0, 0) k7]; rfl
    clear r6 r7 rb rR o6 k6 o7 r7' k7 k6' n1 kg kb kR kR' tS1 tS2 hE9 he hx2 hg hgs c2 c3 c4 lR d0
    go_wp2_with fail
    exact bodyPost_ret (v := .tuple #[.agg #[.slice (some ⟨g, 0, none⟩) m m, .slice (some ⟨bb, 0, none⟩) nb nb, .int .i64 (uu : Int)], .agg #[.int .i64 0, .int .i64 0]]) (by simp [results, Tryz.results6, go_sem, z0, z1, z2, z3, z4]) rfl ⟨_, by rw [Hc0.out, HF1.out], HE9.out, fun _ => Hend.out, fun h => absurd Hc0.out h⟩
  · have hcb := nt hc0
    have Hc0 := Lib.hid hc0
    have e1 := (Array.getElem?_eq_some_iff.1 HrS.out).1; have e2 := HbF.out.lt; have e3 := HX0.out.size
    have ne1 : H + 1 ≠ w1.heap.size := by omega
    have ne2 : H + 2 ≠ w1.heap.size := by omega
    have ne3 : w1.heap.size ≠ H + 1 := by omega
    have ne4 : w1.heap.size ≠ H + 2 := by omega
    clear hc0 Hrun Hq4 e1 e2 e3
    go_upto_region 3 with fail
    go_region
    go_wp2_with fail
    refine bodyPost_ret (v := .tuple #[.agg noSh, .agg #[.int .i64 F0, .int .i64 F1]]) (by simp [results, Tryz.results6, go_sem, s0, s1, s2, x0', x1', noSh]) rfl ⟨noSh, rfl, ?_, fun h => absurd h Hc0.out, fun _ => rfl⟩
    have := HwH.out
    refine Below.drew ?_
    exact Ext.put (Ext.put (Ext.put (Ext.put (Ext.put HEz.out (by omega) _) (by omega) _) (by omega) _) (by omega) _) (by omega) _
end Go.Proofs.YtfjnlopbmkimiaaGreatDoor
namespace Go.Proofs.YtfjnlopbmkimiaaGreatDoor
open Go.RowKit

theorem cput {w W : World} {g o : Nat} (h : Ext w W) (hg : w.heap.size ≤ g) (u : Value) : Ext w (W.setCell ⟨g, o, none⟩ u) := Below.setCell h (p := ⟨g, o, none⟩) hg u
theorem cdrew {w W : World} (h : Ext w W) : Ext w W.drew := Below.drew h


end Go.Proofs.YtfjnlopbmkimiaaGreatDoor
namespace Go.Proofs.YtfjnlopbmkimiaaGreatDoor
open Go.RowKit

/-- What a checked operation keeps to. -/
structure PrFit (o : Gop) : Prop where
  kd : 1 ≤ o.kind ∧ o.kind ≤ 6
  k : 0 ≤ o.k ∧ o.k < 100
  q : 0 ≤ o.q ∧ o.q < 100
  bit : 0 ≤ o.bit ∧ o.bit < 100
  ctl : ∀ c ∈ o.ctl, 0 ≤ c ∧ c < 100
  few : o.ctl.length ≤ 12
  cnd : ∀ t ∈ o.cnd, t ≠ 0 ∧ -12 ≤ t ∧ t ≤ 12
  cfew : o.cnd.length ≤ 24


end Go.Proofs.YtfjnlopbmkimiaaGreatDoor
namespace Go.Proofs.YtfjnlopbmkimiaaGreatDoor
open Go.RowKit

theorem prFit_of_code {o : Gop} {n b : Int} (hn : n ≤ 12) (hb0 : 0 ≤ b) (hb : b ≤ 12) (h : opCode o n b = 0) : PrFit o := by
  obtain ⟨f1, f2, f3, f4⟩ := fit_of_code hn hb0 hb h
  have hk : 0 ≤ o.k ∧ o.k < 100 := by
    unfold opCode at h
    split at h
    · omega
    split at h
    · omega
    rename_i hk
    unfold fitsB at hk
    split at hk
    · have : below o.k 16 = true := by simpa using hk
      have := below_iff.1 this; omega
    · have : o.k = 0 := by simpa using hk
      omega
  have hq : 0 ≤ o.q := by
    unfold opCode at h
    split at h
    · omega
    split at h
    · omega
    split at h
    · omega
    rename_i hk
    unfold fitsB at hk
    split at hk
    · have : below o.q n = true := by simpa using hk
      have := below_iff.1 this; omega
    · have : o.q = 0 := by simpa using hk
      omega
  have := f1.bit
  exact ⟨f1.kd, hk, ⟨hq, by have := f2.2.1; omega⟩, ⟨this.1, by omega⟩, fun c hc => ⟨(f4 c hc).1, by have := (f4 c hc).2; omega⟩, f3, fun t ht => ⟨f2.2.2.2 t ht, f1.cnd t ht⟩, f1.few⟩

end Go.Proofs.YtfjnlopbmkimiaaGreatDoor
namespace Go.Proofs.YtfjnlopbmkimiaaGreatDoor
open Go.RowKit

theorem row_put {W : World} {g k : Nat} {cs cs' : Array Value} {t : TypeId} {u : Value} (h : W.heap[g]? = some (.cells cs t (0, 0))) (e : cs.setIfInBounds k u = cs') : (W.setCell ⟨g, k, none⟩ u).heap[g]? = some (.cells cs' t (0, 0)) := by
  rw [setCell_eq_setRow W g k _ _ _ _ h, setRow_heap W g _ _ _ _ h, e]
theorem row_far {W : World} {g g' k : Nat} {x : Obj} {u : Value} (h : W.heap[g]? = some x) (hne : g' ≠ g) : (W.setCell ⟨g', k, none⟩ u).heap[g]? = some x := by
  rw [Below.heap_setCell W ⟨g', k, none⟩ u g (fun e => hne e.symm)]; exact h

end Go.Proofs.YtfjnlopbmkimiaaGreatDoor
namespace Go.Proofs.YtfjnlopbmkimiaaGreatDoor
open Go.RowKit

/-- The texts l lie at ao. -/
def StrsAt (w : World) (ao : Option Addr) (n : Nat) (l : List (List UInt8)) : Prop :=
  l.length = n ∧ (n = 0 ∨ ∃ b o, ao = some ⟨b, o, none⟩ ∧ b < w.heap.size ∧ ∀ t, t < n → w.cell? ⟨b, o + t, none⟩ = some (.string ⟨(l.getD t []).toArray⟩))
theorem StrsAt.ext {w w' : World} {ao : Option Addr} {n : Nat} {l : List (List UInt8)} (h : StrsAt w ao n l) (k : Ext w w') : StrsAt w' ao n l := by
  refine ⟨h.1, ?_⟩
  rcases h.2 with h0 | ⟨b, o, e, hb, hc⟩
  · exact Or.inl h0
  · exact Or.inr ⟨b, o, e, Nat.lt_of_lt_of_le hb k.size, fun t ht => (k.cell (p := ⟨b, o + t, none⟩) hb).trans (hc t ht)⟩
end Go.Proofs.YtfjnlopbmkimiaaGreatDoor
namespace Go.Proofs.YtfjnlopbmkimiaaGreatDoor
open Go.RowKit

set_option maxHeartbeats 1000000 in
theorem sameInts_any (l : List Int) (a1 : Option Addr) (n c1 : Nat) (a2 : Option Addr) (c2 : Nat) (w : World) (h1 : IntsAt w a1 n l) (h2 : IntsAt w a2 n l) (hc1 : n ≤ c1) (hm1 : c1 ≤ 9223372036854775807) :
    Calls Tryz.prog 11 #[.slice a1 n c1, .slice a2 n c2] w fun e w' => e = .returned (.bool true) ∧ Ext w w' := by
  have H1 := Lib.hid h1; have H2 := Lib.hid h2
  clear h1 h2
  go_enter Tryz.func11, Tryz.ntmps11
  go_wp2_with fail
  go_loopg [5] n (fun kk s5 wx => ∃ i : Nat, s5 = .int .i64 (i : Int) ∧ i ≤ n ∧ n - i = kk ∧ Ext w wx)
  case atStart => exact ⟨0, rfl, by omega, by omega, Ext.refl w⟩
  case round =>
    obtain ⟨i, rfl, hi1, hk, hE⟩ := hrel
    have HE := Lib.hid hE
    by_cases hin : i = n
    · have h2 : ¬ (i : Int) < (n : Int) := by omega
      clear hE
      go_wp2_with fail
      go_ret
      exact ⟨rfl, HE.out⟩
    · have h2 : (i : Int) < (n : Int) := by omega
      have h0 : (0 : Int) ≤ (i : Int) := by omega
      obtain ⟨b1, o1, rfl, hb1, hc1'⟩ := (H1.out.ext hE).at (by omega)
      obtain ⟨b2, o2, rfl, hb2, hc2'⟩ := (H2.out.ext hE).at (by omega)
      have e1 := hc1' i (by omega); have e2 := hc2' i (by omega)
      obtain ⟨x, hx⟩ : ∃ x, l.getD i 0 = x := ⟨_, rfl⟩
      rw [hx] at e1 e2
      have HEd := Lib.hid (cdrew hE)
      clear hE hc1' hc2' hx
      go_wp2_with fail
      go_region
      go_wp2_with fail
      go_roundg (n - (i + 1))
      case measure => omega
      case rel => exact ⟨i + 1, by go_num, by omega, rfl, HEd.out⟩

end Go.Proofs.YtfjnlopbmkimiaaGreatDoor
