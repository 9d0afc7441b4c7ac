/-
  The program: exchange. A sum: Add. A difference: Sub; a number times its mirror: Norm.
-/
import Derived.Test.YtfjnlopbmkimiaaGreatDoorProg
import Derived.Test.YtfjnlopbmkimiaaGreatDoorRows
import Derived.BigQuiet
import Derived.Deep.AppendLies
import Derived.Deep.Cut
import Derived.Deep.CutRange
import Derived.Deep.LoopGhost
import Derived.Deep.MidRow
import Derived.Deep.QuietTactic
import Derived.Deep.RegionHeld3
import Derived.Ground.Names2Prog
import Derived.Laws.Bits64b
import Derived.Laws.CopyOwn
import Derived.Laws.IdiomCopy
import Derived.Laws.ResultCell
import Derived.Laws.Rows
import Derived.Lib.AppendIntMem
import Derived.Lib.AppendStr
import Derived.Lib.BitFns
import Derived.Lib.Hide
import Derived.Lib.ItoaMem
import Derived.Lib.ItoaNum
import Derived.Lib.Strings
import Derived.Lib.TrailingZeros
import Derived.LoopIn
import Derived.LoopNIn
import Derived.OrdersHeld
import Derived.OrdersIn
import Derived.OwnWalk
import Derived.OwnWalkIn
import Derived.ProofKit
import Derived.RangeFuncBound
import Derived.RangeFuncCalls
import Derived.RangeFuncFrom
import Derived.RangeFuncLeaves
import Derived.RegionTactic
import Derived.Shelf.Abstract
import Derived.Shelf.Bits.Mul64
import Derived.Shelf.LaysM
import Derived.Shelf.Slices.SearchI
import Derived.Shelf.Small.Bits
import Derived.Shelf.Small.Wraps
import Derived.Shelf.Spec.BitsCarry
import Derived.Shelf.Spec.TrailingZeros
import Derived.Shelf.Strconv.Itoa0
import Derived.Shelf.Strconv.Itoa1
import Derived.Shelf.Strconv.Itoa2
import Derived.Shelf.Strconv.Itoa3
import Derived.Shelf.Strings.Builder1
import Derived.Shelf.Strings.BuilderF
import Derived.Shelf.Strings.BuilderK
import Derived.TacticsInMore
import Derived.WalkKit
import Derived.WalkLawsBesides
import Derived.WalkSpells
import Derived.Test.YtfjnlopbmkimiaaGreatDoorS00Mem
import Derived.Test.YtfjnlopbmkimiaaGreatDoorShelf
import Derived.Test.YtfjnlopbmkimiaaGreatDoorS02ShiftI
import Derived.Test.YtfjnlopbmkimiaaGreatDoorS03GuessD
import Derived.Test.YtfjnlopbmkimiaaGreatDoorS04IntB
import Derived.Test.YtfjnlopbmkimiaaGreatDoorS05IntD
import Derived.Test.YtfjnlopbmkimiaaGreatDoorS06GcB
import Derived.Test.YtfjnlopbmkimiaaGreatDoorS07Rg
import Derived.Test.YtfjnlopbmkimiaaGreatDoorS08ZC
import Derived.Test.YtfjnlopbmkimiaaGreatDoorS09Bw
import Derived.Test.YtfjnlopbmkimiaaGreatDoorS10TxT
import Derived.Test.YtfjnlopbmkimiaaGreatDoorS11Xo
import Derived.Test.YtfjnlopbmkimiaaGreatDoorS12Xm
import Derived.Test.YtfjnlopbmkimiaaGreatDoorS13Yg
namespace Go.Proofs.YtfjnlopbmkimiaaGreatDoor
open Go.RowKit Go.Shelf
attribute [local go_sem] Oper.semAt_some

set_option maxRecDepth 100000 in
set_option maxHeartbeats 2000000 in
theorem exchange_any (b n cp c q : Nat) (s : Nat → Nm) (N : Nat) (w : World) (h : WvA w b n s N) (hn : n ≤ 4096) (hc : c < 4096) (hq : q < 4096) (hin : ∀ x, x < n → x ||| q < n) (hne : ∀ x, x &&& (c ||| q) = c → x ≠ x ||| q) :
    Calls Tryz.prog 119 #[.slice (some ⟨b, 0, none⟩) n cp, .int .i64 (c : Int), .int .i64 (q : Int)] w fun e w' => (∃ v, e = .returned v) ∧ WvA w' b n (exS c q n s) (N + 4096) ∧ Chg b w w' := by
  obtain ⟨H, hH⟩ : ∃ H, w.heap.size = H := ⟨_, rfl⟩
  have hbH : b < H := by rw [← hH]; exact h.at'.lt
  obtain ⟨W1, hW1⟩ : ∃ W1, ((w.alloc (.cells #[.slice (some ⟨b, 0, none⟩) n cp] 66)).alloc (.cells #[.int .i64 (q : Int)] 3)) = W1 := ⟨_, rfl⟩
  have E1 : Ext w W1 := by rw [← hW1]; exact (ext_alloc _ _).trans (ext_alloc _ _)
  have z1 : W1.cell? ⟨H, 0, none⟩ = some (.slice (some ⟨b, 0, none⟩) n cp) := by rw [← hW1, ← hH]; exact old1 (new1 _ _ _) _
  have z2 : W1.cell? ⟨H + 1, 0, none⟩ = some (.int .i64 (q : Int)) := by
    have := new1 (w.alloc (.cells #[.slice (some ⟨b, 0, none⟩) n cp] 66)) (.int .i64 (q : Int)) 3
    rw [World.size_alloc] at this
    rw [← hW1, ← hH]; exact this
  have sz1 : H + 1 < W1.heap.size := by rw [← hW1, ← hH]; simp
  have HW1 := Lib.hid hW1; have HH := Lib.hid hH
  have hf4 : c ||| q < 4096 := Nat.or_lt_two_pow (n := 12) hc hq
  clear hW1 hH
  refine (callsIn_wide (n := 3)).1 ?_
  refine callsIn_of_wp_marks Tryz.func119 rfl trivial ?_ rfl
  simp only [Tryz.ntmps119, List.size_toArray, List.length_cons, List.length_nil, Nat.reduceAdd, Nat.reduceSub, Array.replicate_succ, Array.replicate_zero, List.push_toArray, List.append_toArray, List.nil_append, List.cons_append]
  refine wpIn_wide.2 ?_
  go_upto_region 1 with fail
  rw [HW1.out, HH.out]
  go_wp2_with fail
  refine (states_any (some ⟨b, 0, none⟩) n cp c q W1 hc hq).mono ?_
  rintro e U ⟨Bo, Bw, Bf, rfl, EU, c1, c2, c3, g1, g2, g3⟩
  have hU : WvA U b n s N := (h.ext E1).ext EU
  have y1 := (EU.cell (p := ⟨H, 0, none⟩) (show H < W1.heap.size by omega)).trans z1
  have y2 := (EU.cell (p := ⟨H + 1, 0, none⟩) (show H + 1 < W1.heap.size by omega)).trans z2
  go_wp2_with fail
  refine wpIn_wide.1 (range_states (m := 3) (fun s x => up2 s x (s (x ||| q)) (x ||| q) (s x)) rfl (by decide) (and_or_left c q) hn hf4 ⟨by omega, g1.2⟩ ⟨by omega, g2.2⟩ ⟨by omega, g3.2⟩ c1 c2 c3 hU rfl
    (fun x => { tmps := #[.slice (some ⟨b, 0, none⟩) n cp, .int .i64 (c : Int), .int .i64 (q : Int), .pointer (some ⟨H, 0, none⟩), undef, .pointer (some ⟨H + 1, 0, none⟩), .int .i64 (x : Int), .slice (some ⟨b, 0, none⟩) n cp, .int .i64 (c : Int), .int .i64 (q : Int),
      .func (.func 160) #[] #[.pointer (some ⟨Bo, 0, none⟩), .pointer (some ⟨Bw, 0, none⟩), .pointer (some ⟨Bf, 0, none⟩)], .int .i64 (x : Int), undef, undef, undef, undef, undef, undef, undef, undef, undef, undef, undef, undef, undef, undef, undef, undef, undef, undef], defers := [] }) ?assign ?body ?done)
  case assign =>
    intro l x W K hK
    gi_wp2
    exact hK
  case done =>
    intro D W hD hW hC hK
    go_wp2_with fail
    refine ⟨by simp, .inl ⟨_, _, rfl, run_takeDeferred hK, ?_⟩⟩
    obtain ⟨h1, h2⟩ := fin_wave hW hC hD hK
    exact ⟨_, results_none rfl _ _ _, ⟨_, rfl⟩, h1, (Chg.of_ext (E1.trans EU)).trans h2⟩
  case body =>
    intro l x s' N' W hx hxf hW hC hN'
    have x1 := hC.cell (show H ≠ b by omega) y1
    have x2 := hC.cell (show H + 1 ≠ b by omega) y2
    obtain ⟨p, y0, fz, hp⟩ := hW.at'.get hx
    obtain ⟨y, hy⟩ : ∃ y, x ||| q = y := ⟨_, rfl⟩
    have hyn : y < n := by rw [← hy]; exact hin x hx
    have hxy : x ≠ y := by rw [← hy]; exact hne x hxf
    have ho8 : bits .or .i64 (x : Int) (q : Int) = (y : Int) := by rw [or_i64 x q (by omega) (by omega), hy]
    obtain ⟨p', y0', fz', hp'⟩ := hW.at'.get hyn
    rw [hy]
    have q0 : (0 : Int) ≤ (x : Int) := by omega
    have q1 : (x : Int) < (n : Int) := by omega
    have r0 : (0 : Int) ≤ (y : Int) := by omega
    have r1 : (y : Int) < (n : Int) := by omega
    have bne : H ≠ b ∧ H + 1 ≠ b := by omega
    have HW := Lib.hid hW; have Hx := Lib.hid hx; have Hyn := Lib.hid hyn; have Hxy := Lib.hid hxy; have Hbne := Lib.hid bne
    clear hW hx hxf hC hN' y1 y2 c1 c2 c3 g1 g2 g3 hU EU z1 z2 E1 h hn hc hq hbH sz1 HW1 HH hin hne hf4 hy hyn hxy bne
    refine wpIn_block ?_
    have hd0 : Ext W W.drew := Below.drew (Ext.refl _)
    have lH := World.block_lt_of_cell? W ⟨H, 0, none⟩ x1
    have lK := World.block_lt_of_cell? W ⟨H + 1, 0, none⟩ x2
    have lb := World.block_lt_of_cell? W ⟨b, x, none⟩ y0
    have HW' := Lib.hid (HW.out.ext hd0)
    have Hp := Lib.hid (hp.ext hd0); have Hp' := Lib.hid (hp'.ext hd0)
    clear hp hp'
    have x1 := cellKeep hd0 lH x1
    have x2 := cellKeep hd0 lK x2
    have y0 := cellKeep hd0 lb y0
    have y0' := cellKeep hd0 lb y0'
    have HdC := Lib.hid (Chg.of_ext (g := b) hd0)
    refine region_round_any (by kernel_rfl) (by rfl) rnd_shut (anyT_plain (k := 17) (S := fun w' => w'.cell? ⟨b, x, none⟩ = some (.pointer p) ∧ w'.cell? ⟨b, y, none⟩ = some (.pointer p')) (T := fun w' => w'.cell? ⟨H, 0, none⟩ = some (.slice (some ⟨b, 0, none⟩) n cp) ∧ w'.cell? ⟨H + 1, 0, none⟩ = some (.int .i64 (q : Int))) _ _ _ _ ?_)
    show anyT _ _ _ _ _ _ _ 20 #[false, false, false, false, false, false, false, false, false, false, false, false, false, false, false, false, false, false, false, false] _ _
    generalize W.drew = V at *
    have hT : V.cell? ⟨H, 0, none⟩ = some (.slice (some ⟨b, 0, none⟩) n cp) ∧ V.cell? ⟨H + 1, 0, none⟩ = some (.int .i64 (q : Int)) := ⟨x1, x2⟩
    have hHeld : V.cell? ⟨b, x, none⟩ = some (.pointer p) ∧ V.cell? ⟨b, y, none⟩ = some (.pointer p') := ⟨y0, y0'⟩
    refine anyT_takeT (i := 0) (v := ?_) rfl (by decide) (by kernel_rfl) (by kernel_rfl) (by kernel_rfl) (fun _ _ _ h => h) (Or.inl ⟨by rfl, ?_⟩) hT (fun _ => hHeld) ?_
    rotate_left 1
    · intro w hSw
      go_simp
      try with_reducible rfl
    show anyT _ _ _ _ _ _ _ _ _ (Act.put _ (some 12) _) _
    simp only [Act.put, List.setIfInBounds_toArray, List.set_cons_zero, List.set_cons_succ]
    refine anyT_takeT (i := 1) (v := ?_) rfl (by decide) (by kernel_rfl) (by kernel_rfl) (by kernel_rfl) (fun _ _ _ h => h) (Or.inl ⟨by rfl, ?_⟩) hT (fun _ => hHeld) ?_
    rotate_left 1
    · intro w hSw
      go_simp
      try with_reducible rfl
    show anyT _ _ _ _ _ _ _ _ _ (Act.put _ (some 13) _) _
    simp only [Act.put, List.setIfInBounds_toArray, List.set_cons_zero, List.set_cons_succ]
    refine anyT_takeT (i := 2) (v := ?_) rfl (by decide) (by kernel_rfl) (by kernel_rfl) (by kernel_rfl) (fun _ _ _ h => h) (Or.inl ⟨by rfl, ?_⟩) hT (fun _ => hHeld) ?_
    rotate_left 1
    · intro w hSw
      go_simp
      try with_reducible rfl
    show anyT _ _ _ _ _ _ _ _ _ (Act.put _ (some 14) _) _
    simp only [Act.put, List.setIfInBounds_toArray, List.set_cons_zero, List.set_cons_succ]
    refine anyT_takeT (i := 3) (v := ?_) rfl (by decide) (by kernel_rfl) (by kernel_rfl) (by kernel_rfl) (fun _ _ _ h => h) (Or.inl ⟨by rfl, ?_⟩) hT (fun _ => hHeld) ?_
    rotate_left 1
    · intro w hSw
      go_simp
      try with_reducible rfl
    show anyT _ _ _ _ _ _ _ _ _ (Act.put _ (some 15) _) _
    simp only [Act.put, List.setIfInBounds_toArray, List.set_cons_zero, List.set_cons_succ]
    refine anyT_takeT (i := 4) (v := ?_) rfl (by decide) (by kernel_rfl) (by kernel_rfl) (by kernel_rfl) (fun _ _ _ h => h) (Or.inl ⟨by rfl, ?_⟩) hT (fun _ => hHeld) ?_
    rotate_left 1
    · intro w hSw
      go_simp
      try with_reducible rfl
    show anyT _ _ _ _ _ _ _ _ _ (Act.put _ (some 16) _) _
    simp only [Act.put, List.setIfInBounds_toArray, List.set_cons_zero, List.set_cons_succ]
    refine anyT_takeT (i := 5) (v := ?_) rfl (by decide) (by kernel_rfl) (by kernel_rfl) (by kernel_rfl) (fun _ _ _ h => h) (Or.inl ⟨by rfl, ?_⟩) hT (fun _ => hHeld) ?_
    rotate_left 1
    · intro w hSw
      go_simp
      try with_reducible rfl
    show anyT _ _ _ _ _ _ _ _ _ (Act.put _ (some 17) _) _
    simp only [Act.put, List.setIfInBounds_toArray, List.set_cons_zero, List.set_cons_succ]
    refine anyT_takeT (i := 6) (v := ?_) rfl (by decide) (by kernel_rfl) (by kernel_rfl) (by kernel_rfl) (fun _ _ _ h => h) (Or.inl ⟨by rfl, ?_⟩) hT (fun _ => hHeld) ?_
    rotate_left 1
    · intro w hSw
      go_simp
      try with_reducible rfl
    show anyT _ _ _ _ _ _ _ _ _ (Act.put _ (some 18) _) _
    simp only [Act.put, List.setIfInBounds_toArray, List.set_cons_zero, List.set_cons_succ]
    refine anyT_takeT (i := 7) (v := ?_) rfl (by decide) (by kernel_rfl) (by kernel_rfl) (by kernel_rfl) (fun _ _ _ h => h) (Or.inl ⟨by rfl, ?_⟩) hT (fun _ => hHeld) ?_
    rotate_left 1
    · intro w hSw
      go_simp
      try with_reducible rfl
    show anyT _ _ _ _ _ _ _ _ _ (Act.put _ (some 19) _) _
    simp only [Act.put, List.setIfInBounds_toArray, List.set_cons_zero, List.set_cons_succ]
    refine anyT_takeT (i := 8) (v := ?_) rfl (by decide) (by kernel_rfl) (by kernel_rfl) (by kernel_rfl) (fun _ _ _ h => h) (Or.inl ⟨by rfl, ?_⟩) hT (fun _ => hHeld) ?_
    rotate_left 1
    · intro w hSw
      go_simp
      try with_reducible rfl
    show anyT _ _ _ _ _ _ _ _ _ (Act.put _ (some 20) _) _
    simp only [Act.put, List.setIfInBounds_toArray, List.set_cons_zero, List.set_cons_succ]
    refine anyT_takeT (i := 9) (v := ?_) rfl (by decide) (by kernel_rfl) (by kernel_rfl) (by kernel_rfl) (fun _ _ _ h => h) (Or.inl ⟨by rfl, ?_⟩) hT (fun _ => hHeld) ?_
    rotate_left 1
    · intro w hSw
      go_simp
      try with_reducible rfl
    show anyT _ _ _ _ _ _ _ _ _ (Act.put _ (some 21) _) _
    simp only [Act.put, List.setIfInBounds_toArray, List.set_cons_zero, List.set_cons_succ]
    refine anyT_takeT (i := 10) (v := ?_) rfl (by decide) (by kernel_rfl) (by kernel_rfl) (by kernel_rfl) (fun _ _ _ h => h) (Or.inl ⟨by rfl, ?_⟩) hT (fun _ => hHeld) ?_
    rotate_left 1
    · intro w hSw
      go_simp
      try with_reducible rfl
    show anyT _ _ _ _ _ _ _ _ _ (Act.put _ (some 22) _) _
    simp only [Act.put, List.setIfInBounds_toArray, List.set_cons_zero, List.set_cons_succ]
    refine anyT_takeT (i := 12) (v := ?_) rfl (by decide) (by kernel_rfl) (by kernel_rfl) (by kernel_rfl) (fun _ _ _ h => h) (Or.inl ⟨by rfl, ?_⟩) hT (fun _ => hHeld) ?_
    rotate_left 1
    · intro w hSw
      go_simp
      try with_reducible rfl
    show anyT _ _ _ _ _ _ _ _ _ (Act.put _ (some 24) _) _
    simp only [Act.put, List.setIfInBounds_toArray, List.set_cons_zero, List.set_cons_succ]
    refine anyT_takeT (i := 13) (v := ?_) rfl (by decide) (by kernel_rfl) (by kernel_rfl) (by kernel_rfl) (fun _ _ _ h => h) (Or.inl ⟨by rfl, ?_⟩) hT (fun _ => hHeld) ?_
    rotate_left 1
    · intro w hSw
      go_simp
      try with_reducible rfl
    show anyT _ _ _ _ _ _ _ _ _ (Act.put _ (some 25) _) _
    simp only [Act.put, List.setIfInBounds_toArray, List.set_cons_zero, List.set_cons_succ]
    refine anyT_takeT (i := 14) (v := ?_) rfl (by decide) (by kernel_rfl) (by kernel_rfl) (by kernel_rfl) (fun _ _ _ h => h) (Or.inl ⟨by rfl, ?_⟩) hT (fun _ => hHeld) ?_
    rotate_left 1
    · intro w hSw
      go_simp
      try with_reducible rfl
    show anyT _ _ _ _ _ _ _ _ _ (Act.put _ (some 26) _) _
    simp only [Act.put, List.setIfInBounds_toArray, List.set_cons_zero, List.set_cons_succ]
    refine anyT_take (i := 11) (v := ?_) rfl (by kernel_rfl) (by kernel_rfl) (by kernel_rfl) (N := 20) (by kernel_rfl) (by kernel_rfl) (by kernel_rfl) (fun _ _ _ h => h) (Or.inl ⟨by rfl, ?_⟩) hHeld hT ?_
    rotate_left 1
    · intro w hSw
      go_simp
      try with_reducible rfl
    show anyT _ _ _ _ _ _ _ _ _ (Act.put _ (some 23) _) _
    simp only [Act.put, List.setIfInBounds_toArray, List.set_cons_zero, List.set_cons_succ]
    refine anyT_take (i := 15) (v := ?_) rfl (by kernel_rfl) (by kernel_rfl) (by kernel_rfl) (N := 20) (by kernel_rfl) (by kernel_rfl) (by kernel_rfl) (fun _ _ _ h => h) (Or.inl ⟨by rfl, ?_⟩) hHeld hT ?_
    rotate_left 1
    · intro w hSw
      go_simp
      try with_reducible rfl
    show anyT _ _ _ _ _ _ _ _ _ (Act.put _ (some 27) _) _
    simp only [Act.put, List.setIfInBounds_toArray, List.set_cons_zero, List.set_cons_succ]
    refine anyT_takeT (i := 16) (v := ?_) rfl (by decide) (by kernel_rfl) (by kernel_rfl) (by kernel_rfl) (fun _ _ _ h => h) (Or.inl ⟨by rfl, ?_⟩) hT (fun _ => hHeld) ?_
    rotate_left 1
    · intro w hSw
      go_simp
      try with_reducible rfl
    show anyT _ _ _ _ _ _ _ _ _ (Act.put _ (some 28) _) _
    simp only [Act.put, List.setIfInBounds_toArray, List.set_cons_zero, List.set_cons_succ]
    clear hT hHeld
    obtain ⟨hA, hB⟩ := HW'.out.put Hx.out Hp'.out (HW'.out.amp y) (Nat.le_refl _)
    have f3 : V.frozen? ⟨b, x, none⟩ = false := by obtain ⟨_, _, hf, _⟩ := HW'.out.at'.get Hx.out; exact hf
    have Hp2 := Lib.hid (PtA.put (i := x) (v := .pointer p') Hp.out HW'.out.at'.row.choose_spec.1 hB.keep)
    have v1 : (V.setCell ⟨b, x, none⟩ (.pointer p')).cell? ⟨H, 0, none⟩ = some (.slice (some ⟨b, 0, none⟩) n cp) := hB.cell Hbne.out.1 x1
    have v2 : (V.setCell ⟨b, x, none⟩ (.pointer p')).cell? ⟨H + 1, 0, none⟩ = some (.int .i64 (q : Int)) := hB.cell Hbne.out.2 x2
    refine anyT_one (i := 17) (by kernel_rfl) rfl (fun Kk hKk => ?_)
    refine stepK_storeP rfl rfl _ _ rfl b x p' _ rfl rfl y0 f3 ?_
    refine hKk.out _ _ (⟨v1, v2⟩) (fun h => Bool.noConfusion (show true = false from h)) ?_
    clear hKk Kk
    simp only [List.setIfInBounds_toArray, List.set_cons_zero, List.set_cons_succ]
    generalize V.setCell ⟨b, x, none⟩ (.pointer p') = V2 at *
    have hT : V2.cell? ⟨H, 0, none⟩ = some (.slice (some ⟨b, 0, none⟩) n cp) ∧ V2.cell? ⟨H + 1, 0, none⟩ = some (.int .i64 (q : Int)) := ⟨v1, v2⟩
    refine anyT_takeT (i := 18) (v := ?_) rfl (by decide) (by kernel_rfl) (by kernel_rfl) (by kernel_rfl) (fun _ _ _ h => h) (Or.inl ⟨by rfl, ?_⟩) hT (fun h => Bool.noConfusion (show true = false from h)) ?_
    rotate_left 1
    · intro w hSw
      go_simp
      try with_reducible rfl
    show anyT _ _ _ _ _ _ _ _ _ (Act.put _ (some 29) _) _
    simp only [Act.put, List.setIfInBounds_toArray, List.set_cons_zero, List.set_cons_succ]
    clear hT
    obtain ⟨hA2, hB2⟩ := hA.put Hyn.out Hp2.out (HW'.out.amp x) (Nat.le_refl _)
    obtain ⟨p4, y4, f4, _⟩ := hA.at'.get Hyn.out
    have v3 : (V2.setCell ⟨b, y, none⟩ (.pointer p)).cell? ⟨H, 0, none⟩ = some (.slice (some ⟨b, 0, none⟩) n cp) := hB2.cell Hbne.out.1 v1
    have v4 : (V2.setCell ⟨b, y, none⟩ (.pointer p)).cell? ⟨H + 1, 0, none⟩ = some (.int .i64 (q : Int)) := hB2.cell Hbne.out.2 v2
    have Hend := Lib.hid (show WvA (V2.setCell ⟨b, y, none⟩ (.pointer p)) b n (up2 s' x (s' y) y (s' x)) (N' + 1) ∧ Chg b W (V2.setCell ⟨b, y, none⟩ (.pointer p)) from ⟨by rw [up2_eq _ _ _ _ _ Hxy.out]; exact hA2.le (Nat.le_succ _), (HdC.out.trans hB).trans hB2⟩)
    refine anyT_one (i := 19) (by kernel_rfl) rfl (fun Kk hKk => ?_)
    refine stepK_storeP rfl rfl _ _ rfl b y p _ rfl rfl y4 f4 ?_
    refine hKk.out _ _ (⟨v3, v4⟩) (fun h => Bool.noConfusion (show true = false from h)) ?_
    clear hKk Kk
    simp only [List.setIfInBounds_toArray, List.set_cons_zero, List.set_cons_succ]
    refine anyT_done (by kernel_rfl) ?_ _
    exact Hend.out
end Go.Proofs.YtfjnlopbmkimiaaGreatDoor
namespace Go.Proofs.YtfjnlopbmkimiaaGreatDoor
open Go.RowKit

/-- What Add has made as far as the j-th. -/
def adN (f g : Nat → Int) : Nat → Nat → Int
  | 0 => f
  | j + 1 => addN (adN f g j) j (g j)
theorem ext8_adN (f g : Nat → Int) : ext8 (adN f g 8) = addR (ext8 f) (ext8 g) := by
  have hs := sum_monos (anti_ext8 g) 0
  have e : ∀ i : Nat, i < 8 → ext8 g (i : Int) = g i := fun i hi => by rw [ext8_at g i (by omega) (by omega)]; rfl
  funext x
  have h2 := congrFun hs x
  simp only [trR, Int.sub_zero, Int.add_zero] at h2
  simp only [addR]
  rw [← h2]
  simp only [adN, ext8_add, addR, sum8]
  have e0 := e 0 (by omega); have e1 := e 1 (by omega); have e2 := e 2 (by omega); have e3 := e 3 (by omega); have e4 := e 4 (by omega); have e5 := e 5 (by omega); have e6 := e 6 (by omega); have e7 := e 7 (by omega)
  simp only [Int.cast_ofNat_Int] at e0 e1 e2 e3 e4 e5 e6 e7 ⊢
  rw [e0, e1, e2, e3, e4, e5, e6, e7]
  omega
theorem adN_down (f g : Nat → Int) : ∀ j, adN f g j 8 = f 8
  | 0 => rfl
  | j + 1 => by simp only [adN]; rw [addN_far]; exact adN_down f g j
theorem adN_abs (f g : Nat → Int) (A B : Nat) (hA : ∀ i, i < 8 → (f i).natAbs ≤ A) (hB : ∀ i, i < 8 → (g i).natAbs ≤ B) : ∀ j, j ≤ 8 → ∀ i, i < 8 → (adN f g j i).natAbs ≤ A + j * B
  | 0, _, i, hi => by have := hA i hi; simp only [adN]; omega
  | j + 1, hj, i, hi => by
    have := addN_abs (adN f g j) j (g j) (A + j * B) B (adN_abs f g A B hA hB j (by omega)) (hB j (by omega)) i hi
    simp only [adN]; rw [Nat.succ_mul]; omega
theorem cmp3_le {x y : Int} (h : y ≤ x) : ¬ cmp3 x y < 0 := by unfold cmp3; rw [if_neg (by omega)]; split <;> decide

set_option maxRecDepth 100000 in
set_option maxHeartbeats 4000000 in
theorem RAdd_ge (ca cb : Array Value) (x y : Nm) (P1 E1 P2 E2 : Nat) (w : World) (h1 : NmA w ca x P1 E1) (h2 : NmA w cb y P2 E2) (hle : y.e ≤ x.e) (K : Nat) (hK : K ≤ 4194304) (hP : P1 + P2 + E1 + 4 ≤ 64 * K) (hE : E1 ≤ 1099511627776) (hbr : Bru w) :
    Calls Tryz.prog 55 #[.agg ca, .agg cb] w fun e w' => ∃ (cr : Array Value) (z : Nm), e = .returned (.agg cr) ∧ NmA w' cr z (P1 + P2 + E1 + 4) E1 ∧ EqN z (nAdd x y) ∧ Ext w w' := by
  have hK1 : 1 ≤ K := by omega
  obtain ⟨f, hf⟩ : ∃ f, nmF x = f := ⟨_, rfl⟩
  obtain ⟨g, hg⟩ : ∃ g, nmF y = g := ⟨_, rfl⟩
  have hv1 := h1.val; have hv2 := h2.val
  rw [hf] at hv1; rw [hg] at hv2
  have hF1 : ∀ i, i < 8 → (f i).natAbs < 2 ^ P1 := fun i hi => by have := nmF_abs h1.abs i hi; rw [hf] at this; exact this
  have hF2 : ∀ i, i < 8 → (g i).natAbs < 2 ^ P2 := fun i hi => by have := nmF_abs h2.abs i hi; rw [hg] at this; exact this
  obtain ⟨ap, hap⟩ : ∃ ap, x.e - y.e = ap := ⟨_, rfl⟩
  obtain ⟨V, hV⟩ : ∃ V : Nat → Int, V = fun i => g i * ((2 ^ ap : Nat) : Int) := ⟨_, rfl⟩
  have hVV : ∀ i, V i = g i * ((2 ^ ap : Nat) : Int) := fun i => by rw [hV]
  have hdx := h1.down
  have hFV : ∀ i, i < 8 → (V i).natAbs < 2 ^ (P2 + E1) := fun i hi => by
    rw [hVV, Int.natAbs_mul, Int.natAbs_natCast]
    have h4 : 2 ^ ap ≤ 2 ^ E1 := Nat.pow_le_pow_right (by decide) (by omega)
    have h5 : 0 < 2 ^ ap := Nat.pow_pos (by decide)
    have h6 := Nat.mul_lt_mul_of_lt_of_le (hF2 i hi) h4 (Nat.pow_pos (by decide))
    rw [← Nat.pow_add] at h6
    exact h6
  have hB : ∀ j, j ≤ 8 → ∀ i, i < 8 → (adN f V j i).natAbs < 2 ^ (P1 + P2 + E1 + 4) := fun j hj i hi => by
    have p1 : 0 < 2 ^ P1 := Nat.pow_pos (by decide)
    have p2 : 0 < 2 ^ (P2 + E1) := Nat.pow_pos (by decide)
    have h5 := adN_abs f V (2 ^ P1 - 1) (2 ^ (P2 + E1) - 1) (fun i hi => by have := hF1 i hi; omega) (fun i hi => by have := hFV i hi; omega) j hj i hi
    have h6 : j * (2 ^ (P2 + E1) - 1) ≤ 8 * (2 ^ (P2 + E1) - 1) := Nat.mul_le_mul_right _ hj
    have h7 : 2 ^ P1 ≤ 2 ^ (P1 + P2 + E1) := Nat.pow_le_pow_right (by decide) (by omega)
    have h8 : 2 ^ (P2 + E1) ≤ 2 ^ (P1 + P2 + E1) := Nat.pow_le_pow_right (by decide) (by omega)
    rw [Nat.pow_add 2 (P1 + P2 + E1) 4]
    omega
  have HB := Lib.hid hB; have HK := Lib.hid hK; have HK1 := Lib.hid hK1; have Hx := Lib.hid h1; have Hy := Lib.hid h2; have Hf := Lib.hid hf; have Hg := Lib.hid hg; have HP := Lib.hid hP; have HEE := Lib.hid hE; have Hle := Lib.hid hle; have Hap := Lib.hid hap; have HVV := Lib.hid hVV; have Hdx := Lib.hid hdx
  have HF1 := Lib.hid (show ∀ i, i < 8 → Fit K (f i) from fun i hi => fit_pow (hF1 i hi) (by omega))
  have HF2 := Lib.hid (show ∀ i, i < 8 → Fit K (g i) from fun i hi => fit_pow (hF2 i hi) (by omega))
  have HFV := Lib.hid (show ∀ i, i < 8 → Fit K (V i) from fun i hi => fit_pow (hFV i hi) (by omega))
  have HFA := Lib.hid (show ∀ j, j ≤ 8 → ∀ i, i < 8 → Fit K (adN f V j i) from fun j hj i hi => fit_pow (hB j hj i hi) hP)
  obtain ⟨H, hH⟩ : ∃ H, w.heap.size = H := ⟨_, rfl⟩
  obtain ⟨U, hU⟩ : ∃ U, (((w.alloc (.cells ca 78)).alloc (.cells cb 78)).alloc (.cells zero9 78)) = U := ⟨_, rfl⟩
  have E0 : Ext w U := by rw [← hU]; exact ((Ext.alloc _ _).trans (Ext.alloc _ _)).trans (Ext.alloc _ _)
  have N0 : Nums U H 9 78 f := by rw [← hU, ← hH]; exact (hv1.box 78).ext ((Ext.alloc _ _).trans (Ext.alloc _ _))
  have N1 : Nums U (H + 1) 9 78 g := by
    have := ((hv2.ext (Ext.alloc w (.cells ca 78))).box 78).ext (Ext.alloc _ (.cells zero9 78))
    rw [← hU, ← hH]
    simpa using this
  have Z0 : Nums U (H + 2) 9 78 (fun _ => 0) := by
    have := (cells_zero9 ((w.alloc (.cells ca 78)).alloc (.cells cb 78))).box 78
    rw [← hU, ← hH]
    simpa using this
  obtain ⟨s8, a8, n8, c8, l16, l17, _, _, hI8⟩ := N0.get 8 (by decide)
  obtain ⟨s7, a7, n7, c7, m16, m17, _, _, hI7⟩ := N1.get 8 (by decide)
  have hf8 : f 8 = ((x.e : Nat) : Int) := by rw [← hf]; rfl
  have hg8 : g 8 = ((y.e : Nat) : Int) := by rw [← hg]; rfl
  rw [hf8] at hI8; rw [hg8] at hI7
  have HI8 := Lib.hid hI8; have HI7 := Lib.hid hI7
  have Hfx := Lib.hid (show Fit K ((x.e : Nat) : Int) from fit_small (z := ((x.e : Nat) : Int)) (by omega) hK1)
  have Hfy := Lib.hid (show Fit K ((y.e : Nat) : Int) from fit_small (z := ((y.e : Nat) : Int)) (by omega) hK1)
  obtain ⟨k, hk⟩ : ∃ k, cmp3 ((x.e : Nat) : Int) ((y.e : Nat) : Int) = k := ⟨_, rfl⟩
  have b1 : ¬ k < 0 := by rw [← hk]; exact cmp3_le (by omega)
  have HC := Lib.hid (CmpK_is k hI8 hI7 K hK Hfx.out Hfy.out hk)
  have HgH : Hid (∀ q, H ≤ q → Tryz.lays29_ren.g 1 ≠ q) := Lib.hid (by
    intro q hq e
    have h1 := hbr 0 (by decide)
    rw [← hH] at hq
    have h2 : Tryz.lays29_ren.g 1 < w.heap.size := World.block_lt_of_cell? w _ h1
    rw [e] at h2
    omega)
  have HU := Lib.hid hU; have HH := Lib.hid hH; have HN0 := Lib.hid N0; have HN1 := Lib.hid N1; have HZ0 := Lib.hid Z0; have HE0 := Lib.hid E0; have Hbr := Lib.hid hbr
  have lH := N0.lt; have lH1 := N1.lt
  clear hU hH Z0 N0 N1 E0 hbr hF1 hF2 hFV hB hv1 hv2 h1 h2 hf hg hK hK1 hP hE hap hV hVV hle hdx hI8 hI7 hf8 hg8 hk
  go_enter Tryz.func55, Tryz.ntmps55
  go_upto_region 1 with fail
  rw [HU.out, HH.out]
  clear HU
  go_wp2_with fail
  refine HC.out.mono ?_
  rintro e w1 ⟨rfl, hx1⟩
  have n16 := cellKeep hx1 lH l16; have n17 := cellKeep hx1 lH l17; have o16 := cellKeep hx1 lH1 m16; have o17 := cellKeep hx1 lH1 m17
  have HN1' := Lib.hid (HN0.out.ext hx1); have HM1 := Lib.hid (HN1.out.ext hx1); have HZ1 := Lib.hid (HZ0.out.ext hx1); have HE1 := Lib.hid (HE0.out.trans hx1)
  have HS := Lib.hid (Sub_any s8 s7 a8 a7 n8 c8 n7 c7 _ _ w1 (HI8.out.ext hx1) (HI7.out.ext hx1) K HK.out Hfx.out Hfy.out)
  clear hx1 l16 l17 m16 m17 lH lH1 HN0 HN1 HZ0 HE0 HC HI8 HI7
  go_wp2_with fail
  clear b1 n16 n17 o16 o17
  refine HS.out.mono ?_
  rintro e w2 ⟨s9, a9, n9, c9, rfl, hI9, hx2⟩
  have HN2 := Lib.hid (HN1'.out.ext hx2); have HM2 := Lib.hid (HM1.out.ext hx2); have HZ2 := Lib.hid (HZ1.out.ext hx2); have HE2 := Lib.hid (HE1.out.trans hx2)
  have hI9' := hI9.cast (show ((x.e : Nat) : Int) - ((y.e : Nat) : Int) = (ap : Int) by have := Hle.out; have := Hap.out; omega)
  have HSm := Lib.hid (Small_any s9 a9 n9 c9 (ap : Int) w2 hI9')
  have Hapb := Lib.hid (show ap ≤ 1099511627776 by have := Hap.out; have := Hdx.out; have := HEE.out; omega)
  rw [if_pos (by have := Hapb.out; omega)] at HSm
  clear hx2 hI9 hI9' HN1' HM1 HZ1 HE1 HS
  go_wp2_with fail
  refine HSm.out.mono ?_
  rintro e w3 ⟨rfl, hx3⟩
  have HN3 := Lib.hid (HN2.out.ext hx3); have HM3 := Lib.hid (HM2.out.ext hx3); have HZ3 := Lib.hid (HZ2.out.ext hx3); have HE3 := Lib.hid (HE2.out.trans hx3)
  clear hx3 HN2 HM2 HZ2 HE2 HSm
  have HSh := Lib.hid (rowShift_any (H + 1) 9 78 g V (ap : Int) w3 HM3.out (by decide) K HK.out HK1.out HF2.out HFV.out (by omega) (by have := Hapb.out; omega) (fun i hi => Or.inl ⟨by omega, by rw [HVV.out]; rfl⟩) (bru_ext Hbr.out HE3.out) (HgH.out (H + 1) (by omega)))
  go_wp2_with fail
  refine HSh.out.mono ?_
  rintro e w4 ⟨rfl, hM4, hC4⟩
  have Hst := Lib.hid (show Nums w4 H 9 78 (adN f V 0) ∧ Nums w4 (H + 1) 9 78 (shN g V 8) ∧ Nums w4 (H + 2) 9 78 (fun _ => 0) ∧ Ext w w4 from
    ⟨HN3.out.chg hC4 (by omega), hM4, HZ3.out.chg hC4 (by omega), hC4.ext HE3.out (by rw [HH.out]; omega)⟩)
  clear hM4 hC4 HN3 HM3 HZ3 HE3 HSh
  go_wp2_with fail
  go_loopg [7, 29] 8 (fun kk s7 s29 wr => ∃ j : Nat, s29 = .int .i64 (j : Int) ∧ j ≤ 8 ∧ 8 - j = kk ∧ Nums wr H 9 78 (adN f V j) ∧ Nums wr (H + 1) 9 78 (shN g V 8) ∧ Nums wr (H + 2) 9 78 (fun _ => 0) ∧ Ext w wr)
  case atStart => exact ⟨0, rfl, by omega, by omega, Hst.out⟩
  case round =>
    clear Hst
    obtain ⟨j, rfl, hj, hjk, hN, hM, hZ, hE⟩ := hrel
    obtain ⟨wo, rfl⟩ : ∃ wo : World, wo = wr := ⟨_, rfl⟩
    by_cases hj8 : j = 8
    · subst hj8
      obtain ⟨c9', hr9, hc9⟩ := hN.cells
      have hrow := hc9.row8 (by decide)
      have hrg := range8 hr9
      obtain ⟨cl, hcl⟩ : ∃ cl, c9'.toList.take 16 = cl := ⟨_, rfl⟩
      rw [hcl] at hrow hrg
      have hlen : cl.length = 16 := by simpa using hrow.1
      have hinfq : (Tryz.prog.info? 76).map (·.size) = some cl.length := by rw [hlen]; exact rrow_info
      obtain ⟨t8, b8, u8, d8, l16, l17, _, _, hI8⟩ := hN.get 8 (by decide)
      rw [adN_down, ← Hf.out] at hI8
      have hI8' : IsInt wo t8 b8 u8 d8 ((x.e : Nat) : Int) := hI8
      have HLo := Lib.hid (rlowest_any cl.toArray t8 b8 u8 d8 (adN f V 8) x.e wo hrow hI8' K (P1 + P2 + E1 + 4) E1 HK.out HK1.out HP.out HEE.out (HB.out 8 (by decide)) Hdx.out (bru_ext Hbr.out hE))
      have HZ := Lib.hid hZ; have HE := Lib.hid hE
      clear hI8 hI8' hrow hc9 hN hM hZ hE HB HF1 HF2 HFV HFA hr9
      go_wp2_with (refine wpList_load_mid rfl 76 _ rfl H 0 rfl cl _ hrg Tryz.underlying76 rfl hinfq ?_)
      refine HLo.out.mono ?_
      rintro e w3 ⟨cr, z, rfl, hcr, hy, he3⟩
      obtain ⟨c1, hr1, hs1, hone, hinf, rr, hnm, hE'⟩ := fin_num hcr (HZ.out.ext he3) (HE.out.trans he3) (by rw [HH.out]; omega)
      have heq : EqN z (nAdd x y) := by
        have e1 : ext8 (adN f V 8) = addR x.a (fun k => y.a k * 2 ^ (x.e - y.e)) := by
          rw [ext8_adN, ← Hf.out, ext8_nmF Hx.out.anti]
          congr 1
          funext k
          rw [ext8_scale (V := g) (c := 2 ^ ap) (fun i _ => by rw [HVV.out, Int.natCast_pow]; rfl) k, ← Hg.out, ext8_nmF Hy.out.anti, Hap.out]
        rw [e1] at hy
        exact hy.trans (n_add_over Hle.out)
      have Hend := Lib.hid (show NmA (w3.setRow (H + 2) cr) cr z (P1 + P2 + E1 + 4) E1 ∧ EqN z (nAdd x y) ∧ Ext w (w3.setRow (H + 2) cr) from ⟨hnm, heq, hE'⟩)
      clear hnm heq hE' hcr hy he3 HLo HZ HE hrg l16 l17
      go_wp2_with (refine wpList_store_row rfl 78 _ _ rfl (H + 2) cr rfl rfl 78 _ hr1 hinf hs1 hone ?_)
      refine bodyPost_ret (v := .agg cr) ?_ rfl ⟨_, _, rfl, Hend.out⟩
      exact results_cell_row rfl _ _ (H + 2) _ _ _ _ rfl rr Tryz.underlying78 rfl hinf
    have hlt : j < 8 := by omega
    have q1 : (j : Int) < 8 := by omega
    have q0 : (0 : Int) ≤ (j : Int) := by omega
    obtain ⟨s1, a1, n1, c1, y0, y1, _, _, hI1⟩ := hM.get j (by omega)
    have hI1' := hI1.cast (show shN g V 8 j = V j by unfold shN; rw [if_pos hlt])
    have wk : IntKind.i64.wrap ((j : Int) + 1) = ((j + 1 : Nat) : Int) := by rw [IntKind.wrap_i64]; omega
    have HAd := Lib.hid (rowAdd_any H 9 78 (adN f V j) (j : Int) s1 a1 n1 c1 (V j) wo hN (by decide) hI1' K HK.out (HFV.out j hlt) (HFA.out j hj))
    have Hj1 := Lib.hid (show j + 1 ≤ 8 by omega)
    have HZ := Lib.hid hZ; have HM := Lib.hid hM; have HE := Lib.hid hE; have Hjk := Lib.hid hjk
    clear hI1 hI1' hN hZ hM hE hjk hj8 hj hlt
    go_wp2_with fail
    refine HAd.out.mono ?_
    rintro e w2 ⟨rfl, hN2, hC2⟩
    have Hend := Lib.hid (show Nums w2 H 9 78 (adN f V (j + 1)) ∧ Nums w2 (H + 1) 9 78 (shN g V 8) ∧ Nums w2 (H + 2) 9 78 (fun _ => 0) ∧ Ext w w2 from
      ⟨hN2, HM.out.chg hC2 (by omega), HZ.out.chg hC2 (by omega), hC2.ext HE.out (by rw [HH.out]; exact Nat.le_refl _)⟩)
    clear hN2 hC2 HAd HZ HM HE y0 y1
    go_wp2_with fail
    go_roundg (8 - (j + 1))
    case measure => have := Hjk.out; have := Hj1.out; omega
    case rel => exact ⟨j + 1, rfl, Hj1.out, rfl, Hend.out⟩

set_option maxRecDepth 100000 in
set_option maxHeartbeats 4000000 in
theorem RAdd_nm (ca cb : Array Value) (x y : Nm) (P1 E1 P2 E2 : Nat) (w : World) (h1 : NmA w ca x P1 E1) (h2 : NmA w cb y P2 E2) (K : Nat) (hK : K ≤ 4194304) (hP : P1 + P2 + E1 + E2 + 4 ≤ 64 * K) (_hE : E1 + E2 ≤ 1099511627776) (hbr : Bru w) :
    Calls Tryz.prog 55 #[.agg ca, .agg cb] w fun e w' => ∃ (cr : Array Value) (z : Nm), e = .returned (.agg cr) ∧ NmA w' cr z (P1 + P2 + E1 + E2 + 4) (E1 + E2) ∧ EqN z (nAdd x y) ∧ Ext w w' := by
  by_cases hle : y.e ≤ x.e
  · refine (RAdd_ge ca cb x y P1 E1 P2 E2 w h1 h2 hle K hK (by omega) (by omega) hbr).mono ?_
    rintro e w' ⟨cr, z, he, hn, hq, hx⟩
    exact ⟨cr, z, he, hn.le (by omega) (by omega), hq, hx⟩
  have hK1 : 1 ≤ K := by omega
  have hv1 := h1.val; have hv2 := h2.val
  obtain ⟨H, hH⟩ : ∃ H, w.heap.size = H := ⟨_, rfl⟩
  obtain ⟨U, hU⟩ : ∃ U, (((w.alloc (.cells ca 78)).alloc (.cells cb 78)).alloc (.cells zero9 78)) = U := ⟨_, rfl⟩
  have E0 : Ext w U := by rw [← hU]; exact ((Ext.alloc _ _).trans (Ext.alloc _ _)).trans (Ext.alloc _ _)
  have N0 : U.heap[H]? = some (.cells ca 78 (0, 0)) := by rw [← hU, ← hH]; exact (((Ext.alloc _ _).trans (Ext.alloc _ _)).block _ (Array.getElem?_eq_some_iff.1 (heap_alloc_new w (.cells ca 78))).1).trans (heap_alloc_new w _)
  have N1 : U.heap[H + 1]? = some (.cells cb 78 (0, 0)) := by
    have h3 := heap_alloc_new (w.alloc (.cells ca 78)) (.cells cb 78)
    have h4 := ((Ext.alloc ((w.alloc (.cells ca 78)).alloc (.cells cb 78)) (.cells zero9 78)).block _ (Array.getElem?_eq_some_iff.1 h3).1).trans h3
    rw [← hU, ← hH]
    simpa using h4
  have Z0 : Nums U (H + 2) 9 78 (fun _ => 0) := by
    have := (cells_zero9 ((w.alloc (.cells ca 78)).alloc (.cells cb 78))).box 78
    rw [← hU, ← hH]
    simpa using this
  have HN0 := Lib.hid N0; have HN1 := Lib.hid N1
  obtain ⟨s8, a8, n8, c8, l16, l17, _, _, hI8⟩ := ((hv1.ext E0).nums N0).get 8 (by decide)
  obtain ⟨s7, a7, n7, c7, m16, m17, _, _, hI7⟩ := ((hv2.ext E0).nums N1).get 8 (by decide)
  have hI8' : IsInt U s8 a8 n8 c8 ((x.e : Nat) : Int) := hI8
  have hI7' : IsInt U s7 a7 n7 c7 ((y.e : Nat) : Int) := hI7
  have hdx := h1.down; have hdy := h2.down
  have HC := Lib.hid (CmpK_is (-1) hI8' hI7' K hK (fit_small (z := ((x.e : Nat) : Int)) (by omega) hK1) (fit_small (z := ((y.e : Nat) : Int)) (by omega) hK1) (cmp3_lt (by omega)))
  have HAd := Lib.hid (fun (wx : World) (hx : Ext w wx) => RAdd_ge cb ca y x P2 E2 P1 E1 wx (h2.ext hx) (h1.ext hx) (by omega) K hK (by omega) (by omega) (bru_ext hbr hx))
  have hi1 := h1.info; have hi2 := h2.info
  have HU := Lib.hid hU; have HH := Lib.hid hH; have HZ0 := Lib.hid Z0; have HE0 := Lib.hid E0; have Hbr := Lib.hid hbr
  clear hU hH Z0 N0 N1 E0 hbr hv1 hv2 h1 h2 hK hK1 hP _hE hle hdx hdy hI8 hI7 hI8' hI7'
  have b1 : (-1 : Int) < 0 := by decide
  go_enter Tryz.func55, Tryz.ntmps55
  go_upto_region 1 with fail
  rw [HU.out, HH.out]
  clear HU
  go_wp2_with fail
  refine HC.out.mono ?_
  rintro e w1 ⟨rfl, hx1⟩
  have hrA : w1.heap[H]? = some (.cells ca 78 (0, 0)) := (hx1.block _ (Array.getElem?_eq_some_iff.1 HN0.out).1).trans HN0.out
  have hrB : w1.heap[H + 1]? = some (.cells cb 78 (0, 0)) := (hx1.block _ (Array.getElem?_eq_some_iff.1 HN1.out).1).trans HN1.out
  have HZ1 := Lib.hid (HZ0.out.ext hx1); have HE1 := Lib.hid (HE0.out.trans hx1)
  clear hx1 l16 l17 m16 m17 HZ0 HE0 HC HN0 HN1
  go_wp2_with (first
    | refine wpList_load_row rfl 78 _ rfl (H + 1) rfl 78 _ (0, 0) _ hrB Tryz.underlying78 rfl hi2 ?_
    | refine wpList_load_row rfl 78 _ rfl H rfl 78 _ (0, 0) _ hrA Tryz.underlying78 rfl hi1 ?_)
  refine (HAd.out w1 HE1.out).mono ?_
  rintro e w2 ⟨cr, z, rfl, hcr, hy, he3⟩
  obtain ⟨c1, hr1, hs1, hone, hinf, rr, hnm, hE'⟩ := fin_num hcr (HZ1.out.ext he3) (HE1.out.trans he3) (by rw [HH.out]; omega)
  have heq : EqN z (nAdd x y) := by rw [nAdd_comm]; exact hy
  have Hend := Lib.hid (show NmA (w2.setRow (H + 2) cr) cr z (P1 + P2 + E1 + E2 + 4) (E1 + E2) ∧ EqN z (nAdd x y) ∧ Ext w (w2.setRow (H + 2) cr) from ⟨hnm.le (by omega) (by omega), heq, hE'⟩)
  clear hnm heq hE' hcr hy he3 HZ1 HE1 hrA hrB HAd
  go_wp2_with (refine wpList_store_row rfl 78 _ _ rfl (H + 2) cr rfl rfl 78 _ hr1 hinf hs1 hone ?_)
  refine bodyPost_ret (v := .agg cr) ?_ rfl ⟨_, _, rfl, Hend.out⟩
  exact results_cell_row rfl _ _ (H + 2) _ _ _ _ rfl rr Tryz.underlying78 rfl hinf
end Go.Proofs.YtfjnlopbmkimiaaGreatDoor
namespace Go.Proofs.YtfjnlopbmkimiaaGreatDoor
open Go.RowKit

set_option maxRecDepth 100000 in
set_option maxHeartbeats 4000000 in
theorem RSub_nm (ca cb : Array Value) (x y : Nm) (P1 E1 P2 E2 : Nat) (w : World) (h1 : NmA w ca x P1 E1) (h2 : NmA w cb y P2 E2) (K : Nat) (hK : K ≤ 4194304) (hP : P1 + P2 + E1 + E2 + 4 ≤ 64 * K) (hE : E1 + E2 ≤ 1099511627776) (hbr : Bru w) :
    Calls Tryz.prog 143 #[.agg ca, .agg cb] w fun e w' => ∃ (cr : Array Value) (z : Nm), e = .returned (.agg cr) ∧ NmA w' cr z (P1 + P2 + E1 + E2 + 4) (E1 + E2) ∧ EqN z (nAdd x (nNeg y)) ∧ Ext w w' := by
  obtain ⟨H, hH⟩ : ∃ H, w.heap.size = H := ⟨_, rfl⟩
  obtain ⟨U, hU⟩ : ∃ U, (((w.alloc (.cells ca 78)).alloc (.cells cb 78)).alloc (.cells zero9 78)) = U := ⟨_, rfl⟩
  have E0 : Ext w U := by rw [← hU]; exact ((Ext.alloc _ _).trans (Ext.alloc _ _)).trans (Ext.alloc _ _)
  have hrA : U.heap[H]? = some (.cells ca 78 (0, 0)) := by rw [← hU, ← hH]; exact (((Ext.alloc _ _).trans (Ext.alloc _ _)).block _ (Array.getElem?_eq_some_iff.1 (heap_alloc_new w (.cells ca 78))).1).trans (heap_alloc_new w _)
  have hrB : U.heap[H + 1]? = some (.cells cb 78 (0, 0)) := by
    have h3 := heap_alloc_new (w.alloc (.cells ca 78)) (.cells cb 78)
    have h4 := ((Ext.alloc ((w.alloc (.cells ca 78)).alloc (.cells cb 78)) (.cells zero9 78)).block _ (Array.getElem?_eq_some_iff.1 h3).1).trans h3
    rw [← hU, ← hH]
    simpa using h4
  have Z0 : Nums U (H + 2) 9 78 (fun _ => 0) := by
    have := (cells_zero9 ((w.alloc (.cells ca 78)).alloc (.cells cb 78))).box 78
    rw [← hU, ← hH]
    simpa using this
  have lA := (Array.getElem?_eq_some_iff.1 hrA).1; have lB := (Array.getElem?_eq_some_iff.1 hrB).1
  have HNe := Lib.hid (fun (wx : World) (hx : Ext U wx) => RNeg_nm cb y P2 E2 wx (h2.ext (E0.trans hx)) K hK (by omega))
  have HAd := Lib.hid (fun (wx : World) (hx : Ext U wx) (cn : Array Value) (hn : NmA wx cn (nNeg y) P2 E2) => RAdd_nm ca cn x (nNeg y) P1 E1 P2 E2 wx (h1.ext (E0.trans hx)) hn K hK hP hE (bru_ext hbr (E0.trans hx)))
  have hi1 := h1.info; have hi2 := h2.info
  have HU := Lib.hid hU; have HH := Lib.hid hH; have HZ0 := Lib.hid Z0; have HE0 := Lib.hid E0
  clear hU hH Z0 E0 hbr h1 h2 hK hP hE
  go_enter Tryz.func143, Tryz.ntmps143
  go_upto_region 1 with fail
  rw [HU.out, HH.out]
  clear HU
  have hd0 : Ext U U.drew := Below.drew (Ext.refl _)
  refine wp_region_K 4 (fun w' => w'.heap[H]? = some (.cells ca 78 (0, 0)) ∧ w'.heap[H + 1]? = some (.cells cb 78 (0, 0))) (by kernel_rfl) ?_
  show anyK _ _ _ _ _ _ 5 #[false, false, false, false, false] _ _
  have hHeld : U.drew.heap[H]? = some (.cells ca 78 (0, 0)) ∧ U.drew.heap[H + 1]? = some (.cells cb 78 (0, 0)) := ⟨(hd0.block _ lA).trans hrA, (hd0.block _ lB).trans hrB⟩
  refine anyK_take (i := 0) (v := .agg ca) rfl (by kernel_rfl) (by kernel_rfl) (by kernel_rfl) (N := 5) (by kernel_rfl) (by kernel_rfl) (by kernel_rfl) (fun _ _ _ h => h) (Or.inl ⟨by rfl, ?_⟩) hHeld ?_
  · intro w hSw
    exact exec_load_row 78 _ rfl (H) rfl 78 _ (0, 0) _ hSw.1 Tryz.underlying78 rfl hi1
  show anyK _ _ _ _ _ _ _ _ (Act.put _ (some 5) _) _
  simp only [Act.put, List.setIfInBounds_toArray, List.set_cons_zero, List.set_cons_succ]
  refine anyK_take (i := 1) (v := .agg cb) rfl (by kernel_rfl) (by kernel_rfl) (by kernel_rfl) (N := 5) (by kernel_rfl) (by kernel_rfl) (by kernel_rfl) (fun _ _ _ h => h) (Or.inl ⟨by rfl, ?_⟩) hHeld ?_
  · intro w hSw
    exact exec_load_row 78 _ rfl (H + 1) rfl 78 _ (0, 0) _ hSw.2 Tryz.underlying78 rfl hi2
  show anyK _ _ _ _ _ _ _ _ (Act.put _ (some 6) _) _
  simp only [Act.put, List.setIfInBounds_toArray, List.set_cons_zero, List.set_cons_succ]
  clear hHeld
  refine anyK_one (i := 2) (by kernel_rfl) rfl (fun Kk hKk => ?_)
  go_simp
  (go_at_call 161; refine (HNe.out _ hd0).mono ?_; rintro e w1 ⟨cn, rfl, hn1, hxx⟩)
  have he1 := hd0.trans hxx
  go_wp2_with fail
  refine hKk.out _ _ (fun _ => ⟨(he1.block _ lA).trans hrA, (he1.block _ lB).trans hrB⟩) ?_
  clear hKk Kk hxx
  simp only [List.setIfInBounds_toArray, List.set_cons_zero, List.set_cons_succ]
  refine anyK_one (i := 3) (by kernel_rfl) rfl (fun Kk hKk => ?_)
  go_simp
  (go_at_call 55; refine (HAd.out w1 he1 cn hn1).mono ?_; rintro e w2 ⟨cr, z, rfl, hcr, hy, hxx⟩)
  have he2 := he1.trans hxx
  go_wp2_with fail
  refine hKk.out _ _ (fun _ => ⟨(he2.block _ lA).trans hrA, (he2.block _ lB).trans hrB⟩) ?_
  clear hKk Kk hxx
  simp only [List.setIfInBounds_toArray, List.set_cons_zero, List.set_cons_succ]
  obtain ⟨c1, hr1, hs1, hone, hinf, rr, hnm, hE'⟩ := fin_num hcr (HZ0.out.ext he2) (HE0.out.trans he2) (by rw [HH.out]; omega)
  have Hend := Lib.hid (show NmA (w2.setRow (H + 2) cr) cr z (P1 + P2 + E1 + E2 + 4) (E1 + E2) ∧ EqN z (nAdd x (nNeg y)) ∧ Ext w (w2.setRow (H + 2) cr) from ⟨hnm, hy, hE'⟩)
  clear hnm hE' hcr hy
  refine anyK_one (i := 4) (by kernel_rfl) rfl (fun Kk hKk => ?_)
  refine stepK_storeR rfl rfl 78 _ _ rfl (H + 2) cr rfl rfl 78 _ hr1 hinf hs1 hone ?_
  refine hKk.out _ _ (fun h => Bool.noConfusion (show true = false from h)) ?_
  clear hKk Kk
  simp only [List.setIfInBounds_toArray, List.set_cons_zero, List.set_cons_succ]
  refine anyK_done (by kernel_rfl) ?_ _
  go_wp2_with fail
  refine bodyPost_ret (v := .agg cr) ?_ rfl ⟨_, _, rfl, Hend.out⟩
  exact results_cell_row rfl _ _ (H + 2) _ _ _ _ rfl rr Tryz.underlying78 rfl hinf

end Go.Proofs.YtfjnlopbmkimiaaGreatDoor
