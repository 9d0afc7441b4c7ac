/-
  Copies of lists and operations, in memory of their own: as the reference makes them, and as the program does. The reference's Inverse. The reference's Then. slices.Grow of nothing, slices.Concat of two rows of operations. A copy of a circuit in memory of its own: as the reference makes it, and as the program does. slices.Reverse of operations in memory of their own.
-/
import Derived.Test.YthgmlhddanbbpaaDoorProg
import Derived.Test.YthgmlhddanbbpaaDoorRows
import Derived.BigQuiet
import Derived.Deep.AppendLies
import Derived.Deep.Cut
import Derived.Deep.CutRange
import Derived.Deep.LoopGhost
import Derived.Deep.QuietTactic
import Derived.Deep.RegionHeld3
import Derived.Defers
import Derived.Ground.Names2Prog
import Derived.Laws.AppendOwnNone
import Derived.Laws.Bits64b
import Derived.Laws.Concat
import Derived.Laws.CopyOwn
import Derived.Laws.IdiomStrings
import Derived.Laws.ResultCell
import Derived.Lib.AppendStr
import Derived.Lib.AppendZeros
import Derived.Lib.AppendZerosOnto
import Derived.Lib.BitFns
import Derived.Lib.Hide
import Derived.Lib.ItoaMem
import Derived.Lib.ItoaNum
import Derived.Lib.Strings
import Derived.Maps.AppendAt
import Derived.OwnWalk
import Derived.Recover
import Derived.Shelf.Slices.Clone
import Derived.Shelf.Slices.Turned
import Derived.Shelf.Spec.TrailingZeros
import Derived.WalkKit
import Derived.WalkLawsBesides
import Derived.WalkSpells
import Derived.Test.YthgmlhddanbbpaaDoorS00Mem
import Derived.Test.YthgmlhddanbbpaaDoorShelf
import Derived.Test.YthgmlhddanbbpaaDoorS02ZCq
import Derived.Test.YthgmlhddanbbpaaDoorS03Uaq
import Derived.Test.YthgmlhddanbbpaaDoorS06Xlq
import Derived.Test.YthgmlhddanbbpaaDoorS07Cn
import Derived.Test.YthgmlhddanbbpaaDoorS08Di
import Derived.Test.YthgmlhddanbbpaaDoorS09Ka
namespace Go.Proofs.YthgmlhddanbbpaaDoor
open Go.RowKit

set_option maxHeartbeats 2000000 in
theorem copyInts_own (ao : Option Addr) (n c : Nat) (l : List Int) (w : World) (h : IntsAt w ao n l) (hb : n * 8 ≤ 140737488355328) :
    Calls Tryd.prog 38 #[.slice ao n c] w fun e w' => (∃ (a' : Option Addr) (c' : Nat), e = .returned (.slice a' n c') ∧ Iow w' w.heap.size a' n c' l) ∧ Ext w w' := by
  obtain ⟨i0, hi, hz0, hz1, hz2⟩ := info_parts i_info
  have Hl := Lib.hid h.1
  have H := Lib.hid h
  clear h
  go_enter Tryd.func38, Tryd.ntmps38
  go_wp2_with fail
  go_loopg [3, 4] n (fun k s3 s4 wr => Ext w wr ∧ ∃ i : Nat, s4 = .int .i64 (i : Int) ∧ i ≤ n ∧ n - i = k ∧ wr.ownsRow w.heap.size 3 1 s3 i (iC (l.take i)))
  case atStart => exact ⟨Ext.refl _, 0, rfl, by omega, by omega, ⟨rfl, Or.inl ⟨rfl, rfl⟩⟩⟩
  case round =>
    obtain ⟨hER, i, rfl, hi', hk, hown⟩ := hrel
    have HER := Lib.hid hER; have Hown := Lib.hid hown
    clear hER hown
    by_cases hin : i = n
    · have h2 : ¬ (i : Int) < (n : Int) := by omega
      have ho := Hown.out
      rw [List.take_of_length_le (by rw [Hl.out]; omega), hin] at ho
      obtain ⟨a', c', e, e1⟩ := io_of_own ho
      subst e
      have HI := Lib.hid e1
      clear ho e1 Hown
      go_wp2_with fail
      go_ret
      exact ⟨⟨a', c', rfl, HI.out⟩, HER.out⟩
    · have h2 : (i : Int) < (n : Int) := by omega
      have h0 : (0 : Int) ≤ (i : Int) := by omega
      obtain ⟨b, o, rfl, hbl, hcell⟩ := (H.out.ext HER.out).at (by omega)
      have hci := hcell i (by omega)
      obtain ⟨y, hy⟩ : ∃ y, l.getD i 0 = y := ⟨_, rfl⟩
      rw [hy] at hci
      have hst : iC (l.take (i + 1)) = iC (l.take i) ++ [.int .i64 y] := by
        rw [← hy, List.take_add_one, List.getElem?_eq_getElem (by rw [Hl.out]; omega), ← iC_snoc, List.getD_eq_getElem?_getD, List.getElem?_eq_getElem (by rw [Hl.out]; omega)]
        rfl
      have Hst := Lib.hid hst
      clear hcell hy hst hbl
      go_wp2_with (at_builtin; refine wpList_append_own _ rfl _ _ 25 rfl w.heap.size 3 i0 (.int .i64 0) 1 8 Tryd.underlying25 hi hz0 hz1 hz2 rfl (by decide) _ i (iC (l.take i)) rfl (Hown.out.alloc _) ⟨wr.heap.size, 0, none⟩ 1 1 [.int .i64 y] rfl rfl (new_i wr y _) (one_i y) (by unfold maxLen; omega) (by omega) (Nat.le_trans HER.out.size (ext_al wr _).size) ?_; intro v' w7 hown' hgrow' _)
      go_roundg (n - (i + 1))
      case measure => omega
      case rel => exact ⟨grown_ext (HER.out.trans (ext_al wr _)) hgrow' (fun k hk => (own_lt Hown.out k hk).1), i + 1, by go_num, by omega, rfl, by rw [Hst.out]; exact hown'⟩

set_option maxHeartbeats 2000000 in
set_option maxRecDepth 100000 in
theorem copyOp_N (o : Gop) (a1 : Option Addr) (n1 c1 : Nat) (a2 : Option Addr) (n2 c2 : Nat) (w : World) (h : OpL w o a1 n1 c1 a2 n2 c2) (hb1 : n1 * 8 ≤ 140737488355328) (hb2 : n2 * 8 ≤ 140737488355328) :
    Calls Tryd.prog 16 #[.agg #[.int .i64 o.kind, .int .i64 o.k, .slice a1 n1 c1, .int .i64 o.q, .int .i64 o.bit, .slice a2 n2 c2]] w fun e w' => (∃ (a1' : Option Addr) (c1' : Nat) (a2' : Option Addr) (c2' : Nat), e = .returned (.agg #[.int .i64 o.kind, .int .i64 o.k, .slice a1' n1 c1', .int .i64 o.q, .int .i64 o.bit, .slice a2' n2 c2']) ∧ OpN w' w.heap.size o a1' n1 c1' a2' n2 c2') ∧ Ext w w' := by
  obtain ⟨kd, k, ctl, q, bt, cnd⟩ := o
  have E0 := (ext_al w (.cells #[.int .i64 kd, .int .i64 k, .slice a1 n1 c1, .int .i64 q, .int .i64 bt, .slice a2 n2 c2] 51)).trans (ext_al _ (.cells #[.int .i64 0, .int .i64 0, .slice none 0 0, .int .i64 0, .int .i64 0, .slice none 0 0] 51))
  have bx := (opbx_new w kd k a1 n1 c1 q bt a2 n2 c2).ext (ext_al _ (.cells #[.int .i64 0, .int .i64 0, .slice none 0 0, .int .i64 0, .int .i64 0, .slice none 0 0] 51))
  have br := opbx_new (w.alloc (.cells #[.int .i64 kd, .int .i64 k, .slice a1 n1 c1, .int .i64 q, .int .i64 bt, .slice a2 n2 c2] 51)) 0 0 none 0 0 0 0 none 0 0
  rw [show (w.alloc (.cells #[.int .i64 kd, .int .i64 k, .slice a1 n1 c1, .int .i64 q, .int .i64 bt, .slice a2 n2 c2] 51)).heap.size = w.heap.size + 1 from by simp] at br
  have HE0 := Lib.hid E0; have HL := Lib.hid (h.ext E0); have H0 := Lib.hid h; have Hbx := Lib.hid bx; have Hbr := Lib.hid br
  have m2 := bx.x2
  simp only
  clear h E0 bx br
  go_enter Tryd.func16, Tryd.ntmps16
  go_wp2_with fail
  generalize (w.alloc (.cells #[.int .i64 kd, .int .i64 k, .slice a1 n1 c1, .int .i64 q, .int .i64 bt, .slice a2 n2 c2] 51)).alloc (.cells #[.int .i64 0, .int .i64 0, .slice none 0 0, .int .i64 0, .int .i64 0, .slice none 0 0] 51) = W0 at *
  clear m2
  refine (copyInts_own a1 n1 c1 ctl W0 HL.out.i1 hb1).mono ?_
  rintro e w1 ⟨⟨a3, c3, rfl, I3⟩, hx1⟩
  have b1 := Hbx.out.ext hx1
  have y2 := b1.x2; have y5 := b1.x5; have f2 := b1.f 2
  have b2 := b1.set2 a3 n1 c3
  have hk1 := only_ints b1.row (by decide) (only1 w1 w.heap.size 2 (.slice a3 n1 c3))
  have I4 := I3.keep hk1
  have Hlt := Lib.hid (fun k hk => (I4.lt k hk).2)
  have HW0 := Lib.hid HE0.out.size
  have HE1 := Lib.hid (p := Ext w _) (Below.setCell (HE0.out.trans hx1) (p := ⟨w.heap.size, 2, none⟩) (Nat.le_refl _) (.slice a3 n1 c3))
  have br2 : OpBx (w1.setCell ⟨w.heap.size, 2, none⟩ (.slice a3 n1 c3)) (w.heap.size + 1) 0 0 none 0 0 0 0 none 0 0 := ⟨((only1 w1 w.heap.size 2 (.slice a3 n1 c3)).block _ (by omega)).trans (Hbr.out.ext hx1).row⟩
  have J2 := H0.out.i2.ext HE1.out
  have z5 := b2.x5
  have Hb2 := Lib.hid b2; have Hbr2 := Lib.hid br2; have HI4 := Lib.hid I4; have HJ2 := Lib.hid J2
  have HW2 := Lib.hid (HE1.out.size)
  clear b1 b2 br2 I3 I4 J2 hk1 HL
  go_wp2_with fail
  generalize w1.setCell ⟨w.heap.size, 2, none⟩ (.slice a3 n1 c3) = W2 at *
  clear y2 y5 f2 z5
  refine (copyInts_own a2 n2 c2 cnd W2 HJ2.out hb2).mono ?_
  rintro e w3 ⟨⟨a5, c5, rfl, I5⟩, hx3⟩
  have b3 := Hb2.out.ext hx3
  have y5 := b3.x5; have f5 := b3.f 5
  have b4 := b3.set5 a5 n2 c5
  have hk3 := only_ints b3.row (by decide) (only1 w3 w.heap.size 5 (.slice a5 n2 c5))
  have I6 := (HI4.out.ext hx3).keep hk3
  have I7 := I5.keep hk3
  have HE3 := Lib.hid (p := Ext w _) (Below.setCell (Ext.trans HE1.out hx3) (p := ⟨w.heap.size, 5, none⟩) (Nat.le_refl _) (.slice a5 n2 c5))
  have br4 : OpBx (w3.setCell ⟨w.heap.size, 5, none⟩ (.slice a5 n2 c5)) (w.heap.size + 1) 0 0 none 0 0 0 0 none 0 0 := ⟨((only1 w3 w.heap.size 5 (.slice a5 n2 c5)).block _ (by omega)).trans (Hbr2.out.ext hx3).row⟩
  have hk4 := only_ints br4.row (by decide) (onl6 (w3.setCell ⟨w.heap.size, 5, none⟩ (.slice a5 n2 c5)) (w.heap.size + 1) (.int .i64 kd) (.int .i64 k) (.slice a3 n1 c3) (.int .i64 q) (.int .i64 bt) (.slice a5 n2 c5))
  have HI8 := Lib.hid (I6.keep hk4); have HI9 := Lib.hid (I7.keep hk4)
  have Hne := Lib.hid (show ∀ k, (Value.slice a3 n1 c3).ownBlock = some k → (Value.slice a5 n2 c5).ownBlock ≠ some k from fun k h1 h2 => by
    have h3 := Hlt.out k h1
    have h4 := (I7.lt k h2).1
    omega)
  have p0 := b4.x0; have p1 := b4.x1; have p2 := b4.x2; have p3 := b4.x3; have p4 := b4.x4; have p5 := b4.x5
  have r0 := br4.x0; have r1 := br4.x1; have r2 := br4.x2; have r3 := br4.x3; have r4 := br4.x4; have r5 := br4.x5
  have g0 := br4.f 0; have g1 := br4.f 1; have g2 := br4.f 2; have g3 := br4.f 3; have g4 := br4.f 4; have g5 := br4.f 5
  clear b3 b4 br4 I5 I6 I7 hk3 hk4 hx3 hx1
  go_wp2_with fail
  exact bodyPost_ret (v := .agg #[.int .i64 kd, .int .i64 k, .slice a3 n1 c3, .int .i64 q, .int .i64 bt, .slice a5 n2 c5]) (by simp [results, Tryd.results16, go_sem, r0, r1, r2, r3, r4, r5]) rfl ⟨⟨a3, c3, a5, c5, rfl, ⟨HI8.out.down (by have := HW0.out; omega), HI9.out.down (by have := HW2.out; omega), Hne.out⟩⟩, put6 HE3.out (by omega) _ _ _ _ _ _⟩

set_option maxHeartbeats 4000000 in
set_option maxRecDepth 100000 in
theorem ccopyOp_N (o : Gop) (a1 : Option Addr) (n1 c1 : Nat) (a2 : Option Addr) (n2 c2 : Nat) (w : World) (h : OpL w o a1 n1 c1 a2 n2 c2) (hb1 : n1 * 8 ≤ 140737488355328) (hb2 : n2 * 8 ≤ 140737488355328) :
    Calls Tryd.prog 84 #[.agg #[.int .i64 o.kind, .int .i64 o.k, .slice a1 n1 c1, .int .i64 o.q, .int .i64 o.bit, .slice a2 n2 c2]] w fun e w' => (∃ (a1' : Option Addr) (c1' : Nat) (a2' : Option Addr) (c2' : Nat), e = .returned (.agg #[.int .i64 o.kind, .int .i64 o.k, .slice a1' n1 c1', .int .i64 o.q, .int .i64 o.bit, .slice a2' n2 c2']) ∧ OpN w' w.heap.size o a1' n1 c1' a2' n2 c2') ∧ Ext w w' := by
  obtain ⟨kd, k, ctl, q, bt, cnd⟩ := o
  have E0 := (ext_al w (.cells #[.int .i64 kd, .int .i64 k, .slice a1 n1 c1, .int .i64 q, .int .i64 bt, .slice a2 n2 c2] 51)).trans (ext_al _ (.cells #[.int .i64 0, .int .i64 0, .slice none 0 0, .int .i64 0, .int .i64 0, .slice none 0 0] 51))
  have bx := (opbx_new w kd k a1 n1 c1 q bt a2 n2 c2).ext (ext_al _ (.cells #[.int .i64 0, .int .i64 0, .slice none 0 0, .int .i64 0, .int .i64 0, .slice none 0 0] 51))
  have br := opbx_new (w.alloc (.cells #[.int .i64 kd, .int .i64 k, .slice a1 n1 c1, .int .i64 q, .int .i64 bt, .slice a2 n2 c2] 51)) 0 0 none 0 0 0 0 none 0 0
  rw [show (w.alloc (.cells #[.int .i64 kd, .int .i64 k, .slice a1 n1 c1, .int .i64 q, .int .i64 bt, .slice a2 n2 c2] 51)).heap.size = w.heap.size + 1 from by simp] at br
  have HE0 := Lib.hid E0; have HL := Lib.hid (h.ext E0); have Hbx := Lib.hid bx; have Hbr := Lib.hid br
  simp only
  clear h E0 bx br
  go_enter Tryd.func84, Tryd.ntmps84
  go_upto_region 1 with fail
  generalize (w.alloc (.cells #[.int .i64 kd, .int .i64 k, .slice a1 n1 c1, .int .i64 q, .int .i64 bt, .slice a2 n2 c2] 51)).alloc (.cells #[.int .i64 0, .int .i64 0, .slice none 0 0, .int .i64 0, .int .i64 0, .slice none 0 0] 51) = W0 at *
  have hd0 : Ext W0 W0.drew := Below.drew (Ext.refl _)
  have HC1 := Lib.hid (fun wx (hx : Ext W0 wx) => copyList_any a1 n1 c1 ctl wx (HL.out.i1.ext hx) hb1)
  have HC2 := Lib.hid (fun wx (hx : Ext W0 wx) => copyList_any a2 n2 c2 cnd wx (HL.out.i2.ext hx) hb2)
  have v2 := Hbx.out.x2; have v5 := Hbx.out.x5
  refine wp_region_K 7 (fun w' => w'.cell? ⟨w.heap.size, 2, none⟩ = some (.slice a1 n1 c1) ∧ w'.cell? ⟨w.heap.size, 5, none⟩ = some (.slice a2 n2 c2)) (by kernel_rfl) ?_
  show anyK _ _ _ _ _ _ 10 #[false, false, false, false, false, false, false, false, false, false] _ _
  have hHeld : W0.drew.cell? ⟨w.heap.size, 2, none⟩ = some (.slice a1 n1 c1) ∧ W0.drew.cell? ⟨w.heap.size, 5, none⟩ = some (.slice a2 n2 c2) := ⟨v2, v5⟩
  refine anyK_take (i := 0) (v := ?_) rfl (by kernel_rfl) (by kernel_rfl) (by kernel_rfl) (N := 10) (by kernel_rfl) (by kernel_rfl) (by kernel_rfl) (fun _ _ _ h => h) (Or.inl ⟨by rfl, ?_⟩) hHeld ?_
  rotate_left 1
  · intro w hSw
    go_simp
    try with_reducible rfl
  show anyK _ _ _ _ _ _ _ _ (Act.put _ (some 3) _) _
  simp only [Act.put, List.setIfInBounds_toArray, List.set_cons_zero, List.set_cons_succ]
  refine anyK_take (i := 1) (v := ?_) rfl (by kernel_rfl) (by kernel_rfl) (by kernel_rfl) (N := 10) (by kernel_rfl) (by kernel_rfl) (by kernel_rfl) (fun _ _ _ h => h) (Or.inl ⟨by rfl, ?_⟩) hHeld ?_
  rotate_left 1
  · intro w hSw
    go_simp
    try with_reducible rfl
  show anyK _ _ _ _ _ _ _ _ (Act.put _ (some 4) _) _
  simp only [Act.put, List.setIfInBounds_toArray, List.set_cons_zero, List.set_cons_succ]
  refine anyK_take (i := 3) (v := ?_) rfl (by kernel_rfl) (by kernel_rfl) (by kernel_rfl) (N := 10) (by kernel_rfl) (by kernel_rfl) (by kernel_rfl) (fun _ _ _ h => h) (Or.inl ⟨by rfl, ?_⟩) hHeld ?_
  rotate_left 1
  · intro w hSw
    go_simp
    try with_reducible rfl
  show anyK _ _ _ _ _ _ _ _ (Act.put _ (some 6) _) _
  simp only [Act.put, List.setIfInBounds_toArray, List.set_cons_zero, List.set_cons_succ]
  refine anyK_take (i := 4) (v := ?_) rfl (by kernel_rfl) (by kernel_rfl) (by kernel_rfl) (N := 10) (by kernel_rfl) (by kernel_rfl) (by kernel_rfl) (fun _ _ _ h => h) (Or.inl ⟨by rfl, ?_⟩) hHeld ?_
  rotate_left 1
  · intro w hSw
    go_simp
    try with_reducible rfl
  show anyK _ _ _ _ _ _ _ _ (Act.put _ (some 7) _) _
  simp only [Act.put, List.setIfInBounds_toArray, List.set_cons_zero, List.set_cons_succ]
  clear hHeld
  refine anyK_one (i := 2) (by kernel_rfl) rfl (fun Kk hKk => ?_)
  go_simp
  (go_at_call 85; refine (HC1.out _ hd0).mono ?_; rintro e w4 ⟨v', rfl, hown1, hx4⟩)
  obtain ⟨a3, c3, rfl, I3⟩ := io_of_own hown1
  have hx4' := hd0.trans hx4
  have b4 := Hbx.out.ext hx4'
  have x2 := b4.x2; have x5 := b4.x5
  go_wp2_with fail
  refine hKk.out _ _ (fun _ => ⟨x2, x5⟩) ?_
  clear hKk Kk
  simp only [List.setIfInBounds_toArray, List.set_cons_zero, List.set_cons_succ]
  have hHeld : w4.cell? ⟨w.heap.size, 2, none⟩ = some (.slice a1 n1 c1) ∧ w4.cell? ⟨w.heap.size, 5, none⟩ = some (.slice a2 n2 c2) := ⟨x2, x5⟩
  refine anyK_take (i := 6) (v := ?_) rfl (by kernel_rfl) (by kernel_rfl) (by kernel_rfl) (N := 10) (by kernel_rfl) (by kernel_rfl) (by kernel_rfl) (fun _ _ _ h => h) (Or.inl ⟨by rfl, ?_⟩) hHeld ?_
  rotate_left 1
  · intro w hSw
    go_simp
    try with_reducible rfl
  show anyK _ _ _ _ _ _ _ _ (Act.put _ (some 9) _) _
  simp only [Act.put, List.setIfInBounds_toArray, List.set_cons_zero, List.set_cons_succ]
  clear hHeld
  refine anyK_one (i := 5) (by kernel_rfl) rfl (fun Kk hKk => ?_)
  go_simp
  (have _ := hx4; go_at_call 85; refine (HC2.out _ hx4').mono ?_; rintro e w5 ⟨v'', rfl, hown2, hx5⟩)
  obtain ⟨a5, c5, rfl, I5⟩ := io_of_own hown2
  have Hne := Lib.hid (show ∀ k, (Value.slice a3 n1 c3).ownBlock = some k → (Value.slice a5 n2 c5).ownBlock ≠ some k from fun k h1 h2 => by
    have h3 := (I3.lt k h1).2
    have h4 := (I5.lt k h2).1
    omega)
  have HW4 := Lib.hid (HE0.out.trans hx4').size; have HW0 := Lib.hid HE0.out.size
  have hx5' := hx4'.trans hx5
  have b5 := Hbx.out.ext hx5'
  have y2 := b5.x2; have y5 := b5.x5; have z2 := b5.f 2
  go_wp2_with fail
  refine hKk.out _ _ (fun _ => ⟨y2, y5⟩) ?_
  clear hKk Kk
  simp only [List.setIfInBounds_toArray, List.set_cons_zero, List.set_cons_succ]
  refine anyK_one (i := 7) (by kernel_rfl) rfl (fun Kk hKk => ?_)
  refine stepK_storeI rfl rfl _ _ rfl w.heap.size 2 a3 n1 c3 (.slice a1 n1 c1) rfl rfl y2 z2 ?_
  refine hKk.out _ _ (fun h => Bool.noConfusion (show true = false from h)) ?_
  clear hKk Kk
  simp only [List.setIfInBounds_toArray, List.set_cons_zero, List.set_cons_succ]
  have b6 := b5.set2 a3 n1 c3
  have hk1 := only_ints b5.row (by decide) (only1 w5 w.heap.size 2 (.slice a3 n1 c3))
  have I6 := (I3.ext hx5).keep hk1
  have I7 := I5.keep hk1
  have HE6 := Lib.hid (p := Ext w _) (Below.setCell (HE0.out.trans hx5') (p := ⟨w.heap.size, 2, none⟩) (Nat.le_refl _) (.slice a3 n1 c3))
  have br6 : OpBx (w5.setCell ⟨w.heap.size, 2, none⟩ (.slice a3 n1 c3)) (w.heap.size + 1) 0 0 none 0 0 0 0 none 0 0 := ⟨((only1 w5 w.heap.size 2 (.slice a3 n1 c3)).block _ (by omega)).trans (Hbr.out.ext hx5').row⟩
  have u5 := b6.x5; have s5 := b6.f 5
  clear b4 b5 x2 x5 y2 y5 z2 I3 I5 hk1 hx4 hx5 hx4' hx5' hown1 hown2 v2 v5 hd0
  generalize w5.setCell ⟨w.heap.size, 2, none⟩ (.slice a3 n1 c3) = W6 at *
  refine anyK_one (i := 8) (by kernel_rfl) rfl (fun Kk hKk => ?_)
  go_wp2_with fail
  refine hKk.out _ _ (fun h => Bool.noConfusion (show true = false from h)) ?_
  clear hKk Kk
  simp only [List.setIfInBounds_toArray, List.set_cons_zero, List.set_cons_succ]
  refine anyK_one (i := 9) (by kernel_rfl) rfl (fun Kk hKk => ?_)
  refine stepK_storeI rfl rfl _ _ rfl w.heap.size 5 a5 n2 c5 (.slice a2 n2 c2) rfl rfl u5 s5 ?_
  refine hKk.out _ _ (fun h => Bool.noConfusion (show true = false from h)) ?_
  clear hKk Kk
  simp only [List.setIfInBounds_toArray, List.set_cons_zero, List.set_cons_succ]
  refine anyK_done (by kernel_rfl) ?_ _
  have b8 := b6.set5 a5 n2 c5
  have hk3 := only_ints b6.row (by decide) (only1 W6 w.heap.size 5 (.slice a5 n2 c5))
  have I8 := I6.keep hk3
  have I9 := I7.keep hk3
  have HE8 := Lib.hid (p := Ext w _) (Below.setCell HE6.out (p := ⟨w.heap.size, 5, none⟩) (Nat.le_refl _) (.slice a5 n2 c5))
  have br8 : OpBx (W6.setCell ⟨w.heap.size, 5, none⟩ (.slice a5 n2 c5)) (w.heap.size + 1) 0 0 none 0 0 0 0 none 0 0 := ⟨((only1 W6 w.heap.size 5 (.slice a5 n2 c5)).block _ (by omega)).trans br6.row⟩
  clear b6 br6 I6 I7 hk3 u5 s5 HE6
  generalize W6.setCell ⟨w.heap.size, 5, none⟩ (.slice a5 n2 c5) = W8 at *
  have hk4 := only_ints br8.row (by decide) (onl6 W8 (w.heap.size + 1) (.int .i64 kd) (.int .i64 k) (.slice a3 n1 c3) (.int .i64 q) (.int .i64 bt) (.slice a5 n2 c5))
  have HI8 := Lib.hid (I8.keep hk4); have HI9 := Lib.hid (I9.keep hk4)
  have p0 := b8.x0; have p1 := b8.x1; have p2 := b8.x2; have p3 := b8.x3; have p4 := b8.x4; have p5 := b8.x5
  have r0 := br8.x0; have r1 := br8.x1; have r2 := br8.x2; have r3 := br8.x3; have r4 := br8.x4; have r5 := br8.x5
  have g0 := br8.f 0; have g1 := br8.f 1; have g2 := br8.f 2; have g3 := br8.f 3; have g4 := br8.f 4; have g5 := br8.f 5
  clear b8 br8 I8 I9 hk4
  go_wp2_with fail
  exact bodyPost_ret (v := .agg #[.int .i64 kd, .int .i64 k, .slice a3 n1 c3, .int .i64 q, .int .i64 bt, .slice a5 n2 c5]) (by simp [results, Tryd.results84, go_sem, r0, r1, r2, r3, r4, r5]) rfl ⟨⟨a3, c3, a5, c5, rfl, ⟨HI8.out.down (by have h1 := HW0.out; simpa using h1), HI9.out.down HW4.out, Hne.out⟩⟩, put6 HE8.out (by omega) _ _ _ _ _ _⟩

end Go.Proofs.YthgmlhddanbbpaaDoor
namespace Go.Proofs.YthgmlhddanbbpaaDoor
open Go.RowKit

theorem ext_only {w U W : World} {k : Nat} (h : Ext w U) (hO : Only k U W) (hk : w.heap.size ≤ k) : Ext w W :=
  Below.trans h ⟨hO.os, hO.tape, hO.output, Nat.le_of_eq hO.size.symm, fun i hi => hO.block i (by omega)⟩
theorem FtB.kept {w w' : World} {k g : Nat} {x y : Int} (h : FtB w g x y) (hO : Only k w w') (hk : g ≠ k) : FtB w' g x y := ⟨(hO.block g hk).trans h.row⟩
theorem only2 (W : World) (A : Nat) (u v : Value) : Only A W ((W.setCell ⟨A, 0, none⟩ u).setCell ⟨A, 1, none⟩ v) := ((Only.refl _ _).setCell _ _).setCell _ _
end Go.Proofs.YthgmlhddanbbpaaDoor
namespace Go.Proofs.YthgmlhddanbbpaaDoor
open Go.RowKit

/-- A circuit and a fault are laid into two variables: a row of operations stands. -/
theorem putCF_opsN {W : World} {R F base : Nat} {v : Value} {ops : List Gop} {x y p q : Int} {a0 : Option Addr} {n0 c0 : Nat} (h : OpsN W base v ops) (hR : CiB W R x y a0 n0 c0) (hF : FtB W F p q) (hne : R ≠ F) (qb bi : Int) (ao : Option Addr) (n cp : Nat) (u w : Int) : OpsN (putCF W R F qb bi ao n cp u w) base v ops := by
  have hP1 : Only R W (((W.setCell ⟨R, 0, none⟩ (.int .i64 qb)).setCell ⟨R, 1, none⟩ (.int .i64 bi)).setCell ⟨R, 2, none⟩ (.slice ao n cp)) := (((Only.refl _ _).setCell _ _).setCell _ _).setCell _ _
  exact (h.far hR.row (by decide) (by decide) hP1).far (hF.kept hP1 (fun e => hne e.symm)).row (by decide) (by decide) (only2 _ F _ _)

end Go.Proofs.YthgmlhddanbbpaaDoor
namespace Go.Proofs.YthgmlhddanbbpaaDoor
open Go.RowKit

/-- The cells of operations, those of none too. -/
theorem srcCells {w : World} {ao : Option Addr} {n : Nat} {ops : List Gop} (h : OpsAt w ao n ops) : ∃ ys : List Value, ys.length = n * 6 ∧ (∀ ad, ao = some ad → ∀ j u, ys[j]? = some u → w.cell? (ad.add j) = some u) ∧ (∀ u ∈ ys, u.oneCell' = true) ∧
    ∀ t g, ops[t]? = some g → ∃ (a1 : Option Addr) (n1 c1 : Nat) (a2 : Option Addr) (n2 c2 : Nat), ys[t * 6]? = some (.int .i64 g.kind) ∧ ys[t * 6 + 1]? = some (.int .i64 g.k) ∧ ys[t * 6 + 2]? = some (.slice a1 n1 c1) ∧ ys[t * 6 + 3]? = some (.int .i64 g.q) ∧ ys[t * 6 + 4]? = some (.int .i64 g.bit) ∧ ys[t * 6 + 5]? = some (.slice a2 n2 c2) ∧ OpL w g a1 n1 c1 a2 n2 c2 := by
  by_cases h0 : n = 0
  · refine ⟨[], by rw [h0]; rfl, fun ad _ j u hu => by simp at hu, fun u hu => by simp at hu, fun t g hg => ?_⟩
    have h1 := (List.getElem?_eq_some_iff.1 hg).1
    have h2 := h.1
    omega
  · obtain ⟨b, o, rfl⟩ := h.some_of (by omega)
    obtain ⟨ys, h1, h2, h3, h4⟩ := opsAt_cells h
    exact ⟨ys, h1, fun ad e => by cases e; exact h2, h3, h4⟩

/-- What stands ahead of number i of two. -/
def pre2 {α : Type} (x y z : α) (i : Nat) : α := if i = 0 then x else if i = 1 then y else z

end Go.Proofs.YthgmlhddanbbpaaDoor
namespace Go.Proofs.YthgmlhddanbbpaaDoor
open Go.RowKit

set_option maxHeartbeats 8000000 in
set_option maxRecDepth 100000 in
theorem with_N (qb bi : Int) (ao0 : Option Addr) (n0 cp0 : Nat) (ao : Option Addr) (n cp : Nat) (ops : List Gop) (w : World) (h : OpsAt w ao n ops) (hn : n ≤ 10000) (hb : ∀ g ∈ ops, g.ctl.length ≤ 1000 ∧ g.cnd.length ≤ 1000) :
    Calls Tryd.prog 78 #[.agg #[.int .i64 qb, .int .i64 bi, .slice ao0 n0 cp0], .slice ao n cp] w fun e w' => (∃ (a' : Option Addr) (c' : Nat), e = .returned (.agg #[.int .i64 qb, .int .i64 bi, .slice a' n c']) ∧ OpsN w' (w.heap.size + 3) (.slice a' n c') ops) ∧ Ext w w' := by
  obtain ⟨i0, hi, hz0, hz1, hz2⟩ := info_parts op_info
  have Hl := Lib.hid h.1
  obtain ⟨H, hH⟩ : ∃ H, w.heap.size = H := ⟨_, rfl⟩
  obtain ⟨A1, hA1⟩ : ∃ A1, w.alloc (.cells #[.int .i64 qb, .int .i64 bi, .slice ao0 n0 cp0] 24) = A1 := ⟨_, rfl⟩
  obtain ⟨A2, hA2⟩ : ∃ A2, A1.alloc (.cells #[.int .i64 0, .int .i64 0, .slice none 0 0] 24) = A2 := ⟨_, rfl⟩
  obtain ⟨A3, hA3⟩ : ∃ A3, A2.alloc (.cells #[.int .i64 qb, .int .i64 bi, .slice none 0 0] 24) = A3 := ⟨_, rfl⟩
  have hA2' : (w.alloc (.cells #[.int .i64 qb, .int .i64 bi, .slice ao0 n0 cp0] 24)).alloc (.cells #[.int .i64 0, .int .i64 0, .slice none 0 0] 24) = A2 := by rw [hA1, hA2]
  have s1 : A1.heap.size = H + 1 := by rw [← hA1, ← hH]; simp
  have s2 : A2.heap.size = H + 2 := by rw [← hA2]; simp; omega
  have s3 : A3.heap.size = H + 3 := by rw [← hA3]; simp; omega
  have x1 : Ext w A1 := by rw [← hA1]; exact ext_al _ _
  have x2 : Ext A1 A2 := by rw [← hA2]; exact ext_al _ _
  have x3 : Ext A2 A3 := by rw [← hA3]; exact ext_al _ _
  have bC : CiB A2 H qb bi ao0 n0 cp0 := by
    have : CiB A1 H qb bi ao0 n0 cp0 := by rw [← hA1, ← hH]; exact ⟨heap_alloc_new w _⟩
    exact this.ext x2
  have bR : CiB A3 (H + 1) 0 0 none 0 0 := by
    have : CiB A2 (H + 1) 0 0 none 0 0 := by rw [← hA2, ← s1]; exact ⟨heap_alloc_new A1 _⟩
    exact this.ext x3
  have bO : CiB A3 (H + 2) qb bi none 0 0 := by rw [← hA3, ← s2]; exact ⟨heap_alloc_new A2 _⟩
  have HhH := Lib.hid hH
  have m0 := bC.x0; have m1 := bC.x1
  have HA := Lib.hid hA2'; have HA3 := Lib.hid hA3; have HE3 := Lib.hid ((x1.trans x2).trans x3); have HbR := Lib.hid bR; have HbO := Lib.hid bO; have Hops := Lib.hid h; have Hb := Lib.hid hb
  have Hs3 := Lib.hid s3; have Hs2 := Lib.hid s2
  rw [← hH] at m0 m1
  rw [← hA2'] at m0 m1
  clear h hb hA1 hA2 hA3 hA2' s1 s2 s3 x1 x2 x3 bC bR bO
  go_enter Tryd.func78, Tryd.ntmps78
  go_wp2_with fail
  rw [HA.out, HA3.out]
  go_loopg [7, 15] n (fun kk s7 s15 wx => ∃ (i : Nat) (av : Option Addr) (cv : Nat), s15 = .int .i64 (i : Int) ∧ i ≤ n ∧ n - i = kk ∧ CiB wx (H + 1) 0 0 none 0 0 ∧ CiB wx (H + 2) qb bi av i cv ∧ OpsN wx (H + 3) (.slice av i cv) (ops.take i) ∧ Ext w wx ∧ H + 3 ≤ wx.heap.size)
  case atStart => exact ⟨0, none, 0, rfl, by omega, by omega, HbR.out, HbO.out, OpsN.nil _ _, HE3.out, by rw [Hs3.out]; exact Nat.le_refl _⟩
  case round =>
    clear HbR HbO HE3 m0 m1
    obtain ⟨i, av, cv, rfl, hin', hk, bR, bO, hown, hX, hbs⟩ := hrel
    by_cases hin : i = n
    · have q1 : ¬ (i : Int) < (n : Int) := by omega
      have q1' : decide ((i : Int) < (n : Int)) = false := df q1
      have htk : ops.take i = ops := List.take_of_length_le (by rw [Hl.out]; omega)
      rw [htk] at hown
      have y0 := bO.x0; have y1 := bO.x1; have y2 := bO.x2
      have r0 := bR.x0; have r1 := bR.x1; have r2 := bR.x2; have g0 := bR.f 0; have g1 := bR.f 1; have g2 := bR.f 2
      have hO3 : Only (H + 1) wr (((wr.setCell ⟨H + 1, 0, none⟩ (.int .i64 qb)).setCell ⟨H + 1, 1, none⟩ (.int .i64 bi)).setCell ⟨H + 1, 2, none⟩ (.slice av i cv)) := (((Only.refl _ _).setCell _ _).setCell _ _).setCell _ _
      have hoF := hown.only bR.row (by decide) hO3 (by omega)
      have zC : CiB (((wr.setCell ⟨H + 1, 0, none⟩ (.int .i64 qb)).setCell ⟨H + 1, 1, none⟩ (.int .i64 bi)).setCell ⟨H + 1, 2, none⟩ (.slice av i cv)) (H + 1) qb bi av i cv := ((bR.set0 qb).set1 bi).set2 av i cv
      have HE := Lib.hid (cput (o := 2) (cput (o := 1) (cput (o := 0) hX (show w.heap.size ≤ H + 1 by omega) (.int .i64 qb)) (show w.heap.size ≤ H + 1 by omega) (.int .i64 bi)) (show w.heap.size ≤ H + 1 by omega) (.slice av i cv))
      have HoF := Lib.hid hoF; have Hin := Lib.hid hin; have HzC := Lib.hid zC
      clear hown hO3 hoF bR bO hX hin htk zC hk hin'
      go_wp2_with fail
      generalize ((wr.setCell ⟨H + 1, 0, none⟩ (.int .i64 qb)).setCell ⟨H + 1, 1, none⟩ (.int .i64 bi)).setCell ⟨H + 1, 2, none⟩ (.slice av i cv) = Wz at *
      have z0 := HzC.out.x0; have z1 := HzC.out.x1; have z2 := HzC.out.x2
      exact bodyPost_ret (v := .agg #[.int .i64 qb, .int .i64 bi, .slice av i cv]) (by simp [results, Tryd.results78, go_sem, z0, z1, z2]) rfl ⟨⟨av, cv, by rw [Hin.out], Eq.mp (congrArg (fun v => OpsN _ (H + 3) v ops) (show Value.slice av i cv = Value.slice av n cv by rw [Hin.out])) HoF.out⟩, HE.out⟩
    · have q1 : (i : Int) < (n : Int) := by omega
      have q1' : decide ((i : Int) < (n : Int)) = true := dt q1
      have q0 : (0 : Int) ≤ (i : Int) := by omega
      obtain ⟨gg, hg⟩ : ∃ g, ops[i]? = some g := ⟨_, List.getElem?_eq_getElem (by rw [Hl.out]; omega)⟩
      have hst : ops.take (i + 1) = ops.take i ++ [gg] := by rw [List.take_add_one, hg]; rfl
      obtain ⟨bo, oo, rfl⟩ := (Hops.out.ext hX).some_of (by omega)
      obtain ⟨a1, n1, c1, a2, n2, c2, t0, t1, t2, t3, t4, t5, hLo⟩ := (Hops.out.ext hX).at i gg hg
      obtain ⟨hbl1, hbl2⟩ := Hb.out gg (List.mem_of_getElem? hg)
      obtain ⟨kd, kk', ctl, qq, bb, cnd⟩ := gg
      simp only at t0 t1 t3 t4 hbl1 hbl2
      have hn1 : n1 ≤ 1000 := by rw [← hLo.i1.1]; exact hbl1
      have hn2 : n2 ≤ 1000 := by rw [← hLo.i2.1]; exact hbl2
      have hown' := hown
      obtain ⟨xs0, ho0x⟩ := hown
      have ho0 := ho0x.own
      have hnb : ∀ k, (Value.slice av i cv).ownBlock = some k → k < wr.heap.size := fun k hk' => (own_lt ho0 k hk').2
      obtain ⟨U, hU⟩ : ∃ U, wr.alloc (.cells #[.int .i64 kd, .int .i64 kk', .slice a1 n1 c1, .int .i64 qq, .int .i64 bb, .slice a2 n2 c2] 51) = U := ⟨_, rfl⟩
      obtain ⟨Bx, hBx⟩ : ∃ x, wr.heap.size = x := ⟨_, rfl⟩
      have hEU : Ext wr U := by rw [← hU]; exact ext_al _ _
      have bx : OpBx U Bx kd kk' a1 n1 c1 qq bb a2 n2 c2 := by rw [← hU, ← hBx]; exact opbx_new wr kd kk' a1 n1 c1 qq bb a2 n2 c2
      rw [hBx] at hnb
      have HOu := Lib.hid (hown'.ext hEU); have HbR := Lib.hid (bR.ext hEU); have HbO := Lib.hid (bO.ext hEU); have HEU := Lib.hid (hX.trans hEU); have Hbx := Lib.hid bx; have Hnb := Lib.hid hnb
      have HCp := Lib.hid (fun wx (hx : Ext U wx) => ccopyOp_N ⟨kd, kk', ctl, qq, bb, cnd⟩ a1 n1 c1 a2 n2 c2 wx ((hLo.ext hEU).ext hx) (by omega) (by omega))
      simp only at HCp
      have Hst := Lib.hid hst; have HU := Lib.hid hU
      have hbs' : H + 3 ≤ U.heap.size := Nat.le_trans hbs hEU.size
      clear hown' ho0 ho0x bR bO hX hEU bx hnb hLo hst hU hg hbl1 hbl2 hbs
      have hbs := hbs'
      clear hbs'
      go_upto_region 5 with fail
      rw [HU.out]
      clear t0 t1 t2 t3 t4 t5
      have v2 := HbO.out.x2
      have e0 := Hbx.out.x0; have e1 := Hbx.out.x1; have e2 := Hbx.out.x2; have e3 := Hbx.out.x3; have e4 := Hbx.out.x4; have e5 := Hbx.out.x5
      have hE0d : Ext U U.drew := Below.drew (Ext.refl _)
      refine wp_region_K 7 (fun w' => w'.cell? ⟨H + 2, 2, none⟩ = some (.slice av i cv) ∧ w'.cell? ⟨Bx, 0, none⟩ = some (.int .i64 kd) ∧ w'.cell? ⟨Bx, 1, none⟩ = some (.int .i64 kk') ∧ w'.cell? ⟨Bx, 2, none⟩ = some (.slice a1 n1 c1) ∧ w'.cell? ⟨Bx, 3, none⟩ = some (.int .i64 qq) ∧ w'.cell? ⟨Bx, 4, none⟩ = some (.int .i64 bb) ∧ w'.cell? ⟨Bx, 5, none⟩ = some (.slice a2 n2 c2)) (by kernel_rfl) ?_
      show anyK _ _ _ _ _ _ 8 #[false, false, false, false, false, false, false, false] _ _
      have hHeld : U.drew.cell? ⟨H + 2, 2, none⟩ = some (.slice av i cv) ∧ U.drew.cell? ⟨Bx, 0, none⟩ = some (.int .i64 kd) ∧ U.drew.cell? ⟨Bx, 1, none⟩ = some (.int .i64 kk') ∧ U.drew.cell? ⟨Bx, 2, none⟩ = some (.slice a1 n1 c1) ∧ U.drew.cell? ⟨Bx, 3, none⟩ = some (.int .i64 qq) ∧ U.drew.cell? ⟨Bx, 4, none⟩ = some (.int .i64 bb) ∧ U.drew.cell? ⟨Bx, 5, none⟩ = some (.slice a2 n2 c2) := ⟨v2, e0, e1, e2, e3, e4, e5⟩
      refine anyK_take (i := 0) (v := ?_) rfl (by kernel_rfl) (by kernel_rfl) (by kernel_rfl) (N := 8) (by kernel_rfl) (by kernel_rfl) (by kernel_rfl) (fun _ _ _ h => h) (Or.inl ⟨by rfl, ?_⟩) hHeld ?_
      rotate_left 1
      · intro w hSw
        go_simp
        try with_reducible rfl
      show anyK _ _ _ _ _ _ _ _ (Act.put _ (some 19) _) _
      simp only [Act.put, List.setIfInBounds_toArray, List.set_cons_zero, List.set_cons_succ]
      refine anyK_take (i := 1) (v := ?_) rfl (by kernel_rfl) (by kernel_rfl) (by kernel_rfl) (N := 8) (by kernel_rfl) (by kernel_rfl) (by kernel_rfl) (fun _ _ _ h => h) (Or.inl ⟨by rfl, ?_⟩) hHeld ?_
      rotate_left 1
      · intro w hSw
        go_simp
        try with_reducible rfl
      show anyK _ _ _ _ _ _ _ _ (Act.put _ (some 20) _) _
      simp only [Act.put, List.setIfInBounds_toArray, List.set_cons_zero, List.set_cons_succ]
      refine anyK_take (i := 2) (v := ?_) rfl (by kernel_rfl) (by kernel_rfl) (by kernel_rfl) (N := 8) (by kernel_rfl) (by kernel_rfl) (by kernel_rfl) (fun _ _ _ h => h) (Or.inl ⟨by rfl, ?_⟩) hHeld ?_
      rotate_left 1
      · intro w hSw
        go_simp
        try with_reducible rfl
      show anyK _ _ _ _ _ _ _ _ (Act.put _ (some 21) _) _
      simp only [Act.put, List.setIfInBounds_toArray, List.set_cons_zero, List.set_cons_succ]
      clear hHeld
      refine anyK_one (i := 3) (by kernel_rfl) rfl (fun Kk hKk => ?_)
      go_simp
      (go_at_call 84; refine (HCp.out _ hE0d).mono ?_; rintro e w4 ⟨⟨a3, c3, a5, c5, rfl, O4⟩, hx4⟩; have he4 : Ext U w4 := hE0d.trans hx4)
      go_wp2_with fail
      refine hKk.out _ _ (fun _ => ⟨cell_ext v2 he4, cell_ext e0 he4, cell_ext e1 he4, cell_ext e2 he4, cell_ext e3 he4, cell_ext e4 he4, cell_ext e5 he4⟩) ?_
      clear hKk Kk
      simp only [List.setIfInBounds_toArray, List.set_cons_zero, List.set_cons_succ]
      have he5 : Ext U (w4.alloc (.cells #[.int .i64 kd, .int .i64 kk', .slice a3 n1 c3, .int .i64 qq, .int .i64 bb, .slice a5 n2 c5] 51)) := he4.trans (ext_al _ _)
      refine anyK_one (i := 4) (by kernel_rfl) rfl (fun Kk hKk => ?_)
      go_wp2_with fail
      refine hKk.out _ _ (fun _ => ⟨cell_ext v2 he5, cell_ext e0 he5, cell_ext e1 he5, cell_ext e2 he5, cell_ext e3 he5, cell_ext e4 he5, cell_ext e5 he5⟩) ?_
      clear hKk Kk
      simp only [List.setIfInBounds_toArray, List.set_cons_zero, List.set_cons_succ]
      obtain ⟨xs, hx0⟩ := HOu.out
      have hxx := hx0.ext he4
      have ho := hxx.own
      have ho5 := ho.alloc (.cells #[.int .i64 kd, .int .i64 kk', .slice a3 n1 c3, .int .i64 qq, .int .i64 bb, .slice a5 n2 c5] 51)
      have hli : (ops.take i).length = i := by rw [List.length_take, Hl.out]; omega
      obtain ⟨g, cap, w7, hrun, hown', hgrow', hcase, hglt⟩ := run_append_lies (P := Tryd.prog) (w4.alloc (.cells #[.int .i64 kd, .int .i64 kk', .slice a3 n1 c3, .int .i64 qq, .int .i64 bb, .slice a5 n2 c5] 51)) 22 22 (H + 3) 51 i0 (.agg #[.int .i64 0, .int .i64 0, .slice none 0 0, .int .i64 0, .int .i64 0, .slice none 0 0]) 6 80 Tryd.underlying22 hi hz0 hz1 hz2 rfl (by decide) (.slice av i cv) (ops.take i).length xs ho5 ⟨w4.heap.size, 0, none⟩ 1 1 [.int .i64 kd, .int .i64 kk', .slice a3 n1 c3, .int .i64 qq, .int .i64 bb, .slice a5 n2 c5] rfl (new_op w4 _ _ _ _ _ _ _ _ _ _ _) (one_op _ _ _ _ _ _ _ _ _ _) (by omega) (by rw [hli]; unfold maxLen; omega) (by rw [hli]; omega) (Nat.le_trans hbs he5.size) _ rfl
      rw [hli] at hrun
      refine anyK_one (i := 5) (by kernel_rfl) rfl (fun Kk hKk => ?_)
      refine stepK_append rfl _ _ 22 rfl (.slice av i cv) (.slice (some ⟨w4.heap.size, 0, none⟩) 1 1) _ rfl rfl hrun ?_
      have hkind := PtKind ho5
      have hk7 : ∀ (b' : Nat) (cur : Array Value) (fr : Nat × Nat), (w4.alloc (.cells #[.int .i64 kd, .int .i64 kk', .slice a3 n1 c3, .int .i64 qq, .int .i64 bb, .slice a5 n2 c5] 51)).heap[b']? = some (.cells cur 3 fr) → w7.heap[b']? = (w4.alloc (.cells #[.int .i64 kd, .int .i64 kk', .slice a3 n1 c3, .int .i64 qq, .int .i64 bb, .slice a5 n2 c5] 51)).heap[b']? := fun b' cur fr hb' => by
        refine hgrow'.block b' (Array.getElem?_eq_some_iff.1 hb').1 (fun e => ?_)
        obtain ⟨_, cs, fr', e2⟩ := hkind b' e.symm
        rw [e2] at hb'
        cases hb'
      have O7 := (O4.ext (ext_al _ (.cells #[.int .i64 kd, .int .i64 kk', .slice a3 n1 c3, .int .i64 qq, .int .i64 bb, .slice a5 n2 c5] 51))).keep hk7
      have own7 := OpsX.snoc (g := ⟨kd, kk', ctl, qq, bb, cnd⟩) (hxx.ext (ext_al _ _)) hown' hk7 hx0.old (show H + 3 ≤ U.heap.size from hbs) O7
      have bOut7 : CiB w7 (H + 2) qb bi av i cv := CiB_grown hgrow' hkind (HbO.out.ext he5) (by omega)
      have bRes7 : CiB w7 (H + 1) 0 0 none 0 0 := CiB_grown hgrow' hkind (HbR.out.ext he5) (by omega)
      have bBox7 : OpBx w7 Bx kd kk' a1 n1 c1 qq bb a2 n2 c2 := ⟨(hgrow'.block _ (Hbx.out.ext he5).lt (fun e => by have := Hnb.out _ e.symm; omega)).trans (Hbx.out.ext he5).row⟩
      have x2' := bOut7.x2; have fz2 := bOut7.f 2
      have hHeld : w7.cell? ⟨H + 2, 2, none⟩ = some (.slice av i cv) ∧ w7.cell? ⟨Bx, 0, none⟩ = some (.int .i64 kd) ∧ w7.cell? ⟨Bx, 1, none⟩ = some (.int .i64 kk') ∧ w7.cell? ⟨Bx, 2, none⟩ = some (.slice a1 n1 c1) ∧ w7.cell? ⟨Bx, 3, none⟩ = some (.int .i64 qq) ∧ w7.cell? ⟨Bx, 4, none⟩ = some (.int .i64 bb) ∧ w7.cell? ⟨Bx, 5, none⟩ = some (.slice a2 n2 c2) := ⟨x2', bBox7.x0, bBox7.x1, bBox7.x2, bBox7.x3, bBox7.x4, bBox7.x5⟩
      refine hKk.out _ _ (fun _ => hHeld) ?_
      clear hKk Kk
      show anyK _ _ _ _ _ _ _ _ (Act.put _ (some 24) _) _
      simp only [Act.put, List.setIfInBounds_toArray, List.set_cons_zero, List.set_cons_succ]
      refine anyK_take (i := 6) (v := ?_) rfl (by kernel_rfl) (by kernel_rfl) (by kernel_rfl) (N := 8) (by kernel_rfl) (by kernel_rfl) (by kernel_rfl) (fun _ _ _ h => h) (Or.inl ⟨by rfl, ?_⟩) hHeld ?_
      rotate_left 1
      · intro w hSw
        go_simp
        try with_reducible rfl
      show anyK _ _ _ _ _ _ _ _ (Act.put _ (some 25) _) _
      simp only [Act.put, List.setIfInBounds_toArray, List.set_cons_zero, List.set_cons_succ]
      clear hHeld
      refine anyK_one (i := 7) (by kernel_rfl) rfl (fun Kk hKk => ?_)
      refine stepK_store rfl rfl _ _ rfl (H + 2) 2 (some ⟨g, 0, none⟩) (i + 1) cap (.slice av i cv) rfl rfl x2' fz2 ?_
      refine hKk.out _ _ (fun h => Bool.noConfusion (show true = false from h)) ?_
      clear hKk Kk
      simp only [List.setIfInBounds_toArray, List.set_cons_zero, List.set_cons_succ]
      refine anyK_done (by kernel_rfl) ?_ _
      have hOo := only1 w7 (H + 2) 2 (.slice (some ⟨g, 0, none⟩) (i + 1) cap)
      have Hown8 := Lib.hid (show OpsN _ (H + 3) _ _ from ⟨_, own7.only bOut7.row (by decide) hOo (by omega)⟩)
      rw [hli] at Hown8
      clear hli
      have HbO8 := Lib.hid (bOut7.set2 (some ⟨g, 0, none⟩) (i + 1) cap)
      have HbR8 := Lib.hid (show CiB (w7.setCell ⟨H + 2, 2, none⟩ (.slice (some ⟨g, 0, none⟩) (i + 1) cap)) (H + 1) 0 0 none 0 0 from ⟨(hOo.block _ (by omega)).trans bRes7.row⟩)
      have HE8 := Lib.hid (cput (o := 2) (grown_ext (HEU.out.trans he5) hgrow' (fun k hk => by have := (hkind k hk).1; have := HhH.out; omega)) (show w.heap.size ≤ H + 2 by have := HhH.out; omega) (.slice (some ⟨g, 0, none⟩) (i + 1) cap))
      have Hs8 := Lib.hid (show H + 3 ≤ (w7.setCell ⟨H + 2, 2, none⟩ (.slice (some ⟨g, 0, none⟩) (i + 1) cap)).heap.size by simp; exact Nat.le_trans (Nat.le_trans hbs he5.size) hgrow'.size)
      clear own7 bOut7 bRes7 bBox7 O7 hk7 hkind hgrow' hown' hrun ho5 ho hxx hx0 O4 hx4 he4 he5 hE0d v2 e0 e1 e2 e3 e4 e5 x2' fz2 hOo
      generalize w7.setCell ⟨H + 2, 2, none⟩ (.slice (some ⟨g, 0, none⟩) (i + 1) cap) = w8 at *
      go_wp2_with fail
      go_roundg (n - (i + 1))
      case measure => omega
      case rel => exact ⟨i + 1, some ⟨g, 0, none⟩, cap, by go_num, by omega, rfl, HbR8.out, HbO8.out, by rw [Hst.out]; exact Hown8.out, HE8.out, Hs8.out⟩

end Go.Proofs.YthgmlhddanbbpaaDoor
namespace Go.Proofs.YthgmlhddanbbpaaDoor
open Go.RowKit

/-- Two operations change places. -/
theorem rowF_swap {w w' : World} {base : Nat} {cs : Array Value} {ops : List Gop} {n i j : Nat} {gi gj : Gop} {a1 : Option Addr} {n1 c1 : Nat} {a2 : Option Addr} {n2 c2 : Nat} {b1 : Option Addr} {m1 d1 : Nat} {b2 : Option Addr} {m2 d2 : Nat}
    (hl : ops.length = n) (hij : i + j + 1 = n) (hlt : i < j) (hsz : n * 6 ≤ cs.size) (h : RowF w base (fun p => cs[p]?) (half ops i)) (hgi : ops[i]? = some gi) (hgj : ops[j]? = some gj)
    (hi : OpN w base gi a1 n1 c1 a2 n2 c2) (hj : OpN w base gj b1 m1 d1 b2 m2 d2) (hk : ∀ g a1 n1 c1 a2 n2 c2, OpN w base g a1 n1 c1 a2 n2 c2 → OpN w' base g a1 n1 c1 a2 n2 c2) :
    RowF w' base (fun p => (set6 (set6 cs (i * 6) (opF gj b1 m1 d1 b2 m2 d2)) (j * 6) (opF gi a1 n1 c1 a2 n2 c2))[p]?) (half ops (i + 1)) := by
  intro t g hg
  have ht : t < n := by have := (List.getElem?_eq_some_iff.1 hg).1; rw [half_len (by omega), hl] at this; exact this
  rw [half_get (by omega) (by omega), hl] at hg
  by_cases e1 : t = j
  · subst e1
    rw [if_pos (by omega), show n - 1 - t = i by omega, hgi] at hg
    injection hg with hg
    subst hg
    have hin := fun k hk => set6_in (set6 cs (i * 6) (opF gj b1 m1 d1 b2 m2 d2)) (t * 6) (opF gi a1 n1 c1 a2 n2 c2) k hk (by rw [set6_size]; omega)
    exact ⟨a1, n1, c1, a2, n2, c2, hin 0 (by omega), hin 1 (by omega), hin 2 (by omega), hin 3 (by omega), hin 4 (by omega), hin 5 (by omega), hk _ _ _ _ _ _ _ hi⟩
  · have hout : ∀ k, k < 6 → (set6 (set6 cs (i * 6) (opF gj b1 m1 d1 b2 m2 d2)) (j * 6) (opF gi a1 n1 c1 a2 n2 c2))[t * 6 + k]? = (set6 cs (i * 6) (opF gj b1 m1 d1 b2 m2 d2))[t * 6 + k]? := fun k hk => set6_out _ _ _ _ (by omega)
    by_cases e2 : t = i
    · subst e2
      rw [if_pos (by omega), show n - 1 - t = j by omega, hgj] at hg
      injection hg with hg
      subst hg
      have hin := fun k hk => (hout k hk).trans (set6_in cs (t * 6) (opF gj b1 m1 d1 b2 m2 d2) k hk (by omega))
      exact ⟨b1, m1, d1, b2, m2, d2, hin 0 (by omega), hin 1 (by omega), hin 2 (by omega), hin 3 (by omega), hin 4 (by omega), hin 5 (by omega), hk _ _ _ _ _ _ _ hj⟩
    · have hg' : (half ops i)[t]? = some g := by
        rw [half_get (by omega) (by omega), hl]
        by_cases e3 : t < i ∨ n - i ≤ t
        · rw [if_pos e3]; rw [if_pos (by omega)] at hg; exact hg
        · rw [if_neg e3]; rw [if_neg (by omega)] at hg; exact hg
      obtain ⟨x1, x2, x3, x4, x5, x6, y0, y1, y2, y3, y4, y5, y6⟩ := h t g hg'
      have hin := fun k hk => (hout k hk).trans (set6_out cs (i * 6) (opF gj b1 m1 d1 b2 m2 d2) (t * 6 + k) (by omega))
      exact ⟨x1, x2, x3, x4, x5, x6, (hin 0 (by omega)).trans y0, (hin 1 (by omega)).trans y1, (hin 2 (by omega)).trans y2, (hin 3 (by omega)).trans y3, (hin 4 (by omega)).trans y4, (hin 5 (by omega)).trans y5, hk _ _ _ _ _ _ _ y6⟩

/-- Two places change what they hold: no two cells lead into one block. -/
theorem sepF_swap {cs : Array Value} {n i j : Nat} {fi fj : Nat → Value} (hlt : i < j) (hj : j < n) (hsz : n * 6 ≤ cs.size) (hi6 : ∀ k, k < 6 → cs[i * 6 + k]? = some (fi k)) (hj6 : ∀ k, k < 6 → cs[j * 6 + k]? = some (fj k)) (h : SepF (n * 6) (fun p => cs[p]?)) :
    SepF (n * 6) (fun p => (set6 (set6 cs (i * 6) fj) (j * 6) fi)[p]?) := by
  have key : ∀ p, p < n * 6 → ∃ q, q < n * 6 ∧ (set6 (set6 cs (i * 6) fj) (j * 6) fi)[p]? = cs[q]? ∧ (p / 6 = i → q = j * 6 + p % 6) ∧ (p / 6 = j → q = i * 6 + p % 6) ∧ (p / 6 ≠ i → p / 6 ≠ j → q = p) := by
    intro p hp
    have hpe : p = p / 6 * 6 + p % 6 := by omega
    have hp6 : p % 6 < 6 := by omega
    by_cases e1 : p / 6 = j
    · refine ⟨i * 6 + p % 6, by omega, ?_, fun e => by omega, fun _ => rfl, fun _ e => absurd e1 e⟩
      have h1 := set6_in (set6 cs (i * 6) fj) (j * 6) fi (p % 6) hp6 (by rw [set6_size]; omega)
      rw [show j * 6 + p % 6 = p by omega] at h1
      rw [h1, hi6 _ hp6]
    · by_cases e2 : p / 6 = i
      · refine ⟨j * 6 + p % 6, by omega, ?_, fun _ => rfl, fun e => absurd e e1, fun e => absurd e2 e⟩
        have h1 := set6_in cs (i * 6) fj (p % 6) hp6 (by omega)
        rw [show i * 6 + p % 6 = p by omega] at h1
        rw [set6_out _ _ _ _ (by omega), h1, hj6 _ hp6]
      · refine ⟨p, hp, ?_, fun e => absurd e e2, fun e => absurd e e1, fun _ _ => rfl⟩
        rw [set6_out _ _ _ _ (by omega), set6_out _ _ _ _ (by omega)]
  intro p q k u v hp hq eu ev ku kv
  obtain ⟨p', hp1, hp2, hp3, hp4, hp5⟩ := key p hp
  obtain ⟨q', hq1, hq2, hq3, hq4, hq5⟩ := key q hq
  simp only at eu ev
  rw [hp2] at eu
  rw [hq2] at ev
  have he := h p' q' k u v hp1 hq1 eu ev ku kv
  by_cases e1 : p / 6 = i
  · have := hp3 e1
    by_cases e2 : q / 6 = i
    · have := hq3 e2; omega
    · by_cases e3 : q / 6 = j
      · have := hq4 e3; omega
      · have := hq5 e2 e3; omega
  · by_cases e1' : p / 6 = j
    · have := hp4 e1'
      by_cases e2 : q / 6 = i
      · have := hq3 e2; omega
      · by_cases e3 : q / 6 = j
        · have := hq4 e3; omega
        · have := hq5 e2 e3; omega
    · have := hp5 e1 e1'
      by_cases e2 : q / 6 = i
      · have := hq3 e2; omega
      · by_cases e3 : q / 6 = j
        · have := hq4 e3; omega
        · have := hq5 e2 e3; omega

set_option maxHeartbeats 8000000 in
set_option maxRecDepth 100000 in
theorem reverse_N (base : Nat) (a : Option Addr) (n c : Nat) (ops : List Gop) (w : World) (h : OpsN w base (.slice a n c) ops) (hn : n ≤ 10000) :
    Calls Tryd.prog 79 #[.slice a n c] w fun e w' => e = .returned (.tuple #[]) ∧ OpsN w' base (.slice a n c) ops.reverse ∧ Rvs (.slice a n c) w w' := by
  by_cases h0 : n = 0
  · subst h0
    have hl : ops = [] := List.length_eq_zero_iff.1 h.at.1
    subst hl
    have HO := Lib.hid h
    have wn1 : IntKind.i64.wrap (((0 : Nat) : Int) - 1) = -1 := by decide
    clear h
    go_enter Tryd.func79, Tryd.ntmps79
    go_wp2_with fail
    go_loopg [2, 3] 0 (fun kk s2 s3 wx => s2 = .int .i64 0 ∧ s3 = .int .i64 (-1) ∧ kk = 0 ∧ wx = w)
    case atStart => exact ⟨rfl, rfl, rfl, rfl⟩
    case round =>
      obtain ⟨rfl, rfl, rfl, rfl⟩ := hrel
      go_wp2_with fail
      go_end0
      exact ⟨rfl, HO.out, Rvs.refl _ _⟩
  · obtain ⟨hl, g, cur0, rfl, hb, hg, hnc, hcm, hsz, hsep, hrow⟩ := opsN_open h (by omega)
    have Hsep := Lib.hid hsep
    obtain ⟨n1, hn1⟩ : ∃ x : Int, (n : Int) - 1 = x := ⟨_, rfl⟩
    have wn1 : IntKind.i64.wrap ((n : Int) - 1) = n1 := by rw [IntKind.wrap_i64]; omega
    have Hg := Lib.hid hg; have Hrow := Lib.hid hrow; have Hl := Lib.hid hl; have Hsz := Lib.hid hsz; have Hb := Lib.hid hb; have Hnc := Lib.hid hnc; have Hcm := Lib.hid hcm
    clear h hg hrow hl hsz hb hnc hcm hsep
    go_enter Tryd.func79, Tryd.ntmps79
    go_wp2_with fail
    go_loopg [2, 3] n (fun kk s2 s3 wx => ∃ (i : Nat) (j : Int) (cur : Array Value), s2 = .int .i64 (i : Int) ∧ s3 = .int .i64 j ∧ j = n1 - (i : Int) ∧ 2 * i ≤ n ∧ n - i = kk ∧ wx.heap[g]? = some (.cells cur 51 (0, 0)) ∧ cur.size = c * 6 ∧ SepF (n * 6) (fun p => cur[p]?) ∧ RowF wx base (fun p => cur[p]?) (half ops i) ∧ Only g w wx)
    case atStart => exact ⟨0, n1, cur0, rfl, rfl, by omega, by omega, by omega, Hg.out, Hsz.out, Hsep.out, by rw [half_zero]; exact Hrow.out, Only.refl _ _⟩
    case round =>
      clear Hg Hrow Hsz Hsep
      obtain ⟨i, j, cur, rfl, rfl, hj, h2i, hk, hg, hsz, hsep, hrow, hB⟩ := hrel
      by_cases hlt : (i : Int) < j
      · obtain ⟨jn, rfl⟩ : ∃ m : Nat, j = (m : Int) := ⟨j.toNat, by omega⟩
        have q1' : decide ((i : Int) < (jn : Int)) = true := dt hlt
        have hij : i + jn + 1 = n := by omega
        have b0 : (0 : Int) ≤ (i : Int) := by omega
        have b1 : (i : Int) < (n : Int) := by omega
        have b2 : (0 : Int) ≤ (jn : Int) := by omega
        have b3 : (jn : Int) < (n : Int) := by omega
        obtain ⟨gi, hgi⟩ : ∃ x, ops[i]? = some x := ⟨_, List.getElem?_eq_getElem (by rw [Hl.out]; omega)⟩
        obtain ⟨gj, hgj⟩ : ∃ x, ops[jn]? = some x := ⟨_, List.getElem?_eq_getElem (by rw [Hl.out]; omega)⟩
        obtain ⟨a1, m1, c1, a2, m2, c2, x0, x1, x2, x3, x4, x5, x6⟩ := hrow i gi (by rw [half_get (by rw [Hl.out]; omega) (by rw [Hl.out]; omega), if_neg (by rw [Hl.out]; omega)]; exact hgi)
        obtain ⟨b1', p1, d1, b2', p2, d2, y0, y1, y2, y3, y4, y5, y6⟩ := hrow jn gj (by rw [half_get (by rw [Hl.out]; omega) (by rw [Hl.out]; omega), if_neg (by rw [Hl.out]; omega)]; exact hgj)
        have ce : ∀ (k : Nat) (v : Value), cur[k]? = some v → wr.cell? ⟨g, k, none⟩ = some v := fun k v e => by rw [cell_of_row wr g k cur _ (0, 0) hg]; exact e
        have fz : ∀ k, wr.frozen? ⟨g, k, none⟩ = false := fun k => frozen_of_row wr g k _ _ hg
        have u0 := ce _ _ x0; have u1 := ce _ _ x1; have u2 := ce _ _ x2; have u3 := ce _ _ x3; have u4 := ce _ _ x4; have u5 := ce _ _ x5
        have v0 := ce _ _ y0; have v1 := ce _ _ y1; have v2 := ce _ _ y2; have v3 := ce _ _ y3; have v4 := ce _ _ y4; have v5 := ce _ _ y5
        have wi : IntKind.i64.wrap ((i : Int) + 1) = ((i + 1 : Nat) : Int) := by rw [IntKind.wrap_i64]; omega
        obtain ⟨j1, hj1⟩ : ∃ x : Int, (jn : Int) - 1 = x := ⟨_, rfl⟩
        have wj : IntKind.i64.wrap ((jn : Int) - 1) = j1 := by rw [IntKind.wrap_i64]; omega
        have ne : jn ≠ i := by omega
        have hsp := sepF_swap (cs := cur) (n := n) (i := i) (j := jn) (fi := opF gi a1 m1 c1 a2 m2 c2) (fj := opF gj b1' p1 d1 b2' p2 d2) (by omega) (show jn < n by omega) (by rw [hsz]; have := Hnc.out; omega) (fun k hk6 => by
          rcases (show k = 0 ∨ k = 1 ∨ k = 2 ∨ k = 3 ∨ k = 4 ∨ k = 5 by omega) with rfl | rfl | rfl | rfl | rfl | rfl
          · exact x0
          · exact x1
          · exact x2
          · exact x3
          · exact x4
          · exact x5) (fun k hk6 => by
          rcases (show k = 0 ∨ k = 1 ∨ k = 2 ∨ k = 3 ∨ k = 4 ∨ k = 5 by omega) with rfl | rfl | rfl | rfl | rfl | rfl
          · exact y0
          · exact y1
          · exact y2
          · exact y3
          · exact y4
          · exact y5) hsep
        have Hsp := Lib.hid hsp
        have Hij := Lib.hid hij; have Hj := Lib.hid hj; have Hj1 := Lib.hid hj1; have Hn1 := Lib.hid hn1; have Hlt := Lib.hid hlt
        have Hg := Lib.hid hg; have Hsz := Lib.hid hsz; have Hrow := Lib.hid hrow; have HB := Lib.hid hB
        have Hx6 := Lib.hid x6; have Hy6 := Lib.hid y6; have Hgi := Lib.hid hgi; have Hgj := Lib.hid hgj; have H2i := Lib.hid h2i; have Hk := Lib.hid hk
        obtain ⟨kdi, ki, ctli, qi, bti, cndi⟩ := gi
        obtain ⟨kdj, kj, ctlj, qj, btj, cndj⟩ := gj
        simp only at u0 u1 u3 u4 v0 v1 v3 v4
        clear hsp hsep ce hij hj hj1 hn1 hg hsz hrow hB x6 y6 hgi hgj x0 x1 x2 x3 x4 x5 y0 y1 y2 y3 y4 y5 h2i hk
        have hWo : Only g wr (putAt (putAt wr g (i * 6) (opF ⟨kdj, kj, ctlj, qj, btj, cndj⟩ b1' p1 d1 b2' p2 d2)) g (jn * 6) (opF ⟨kdi, ki, ctli, qi, bti, cndi⟩ a1 m1 c1 a2 m2 c2)) := ((((((putAt_only wr g (i * 6) (opF ⟨kdj, kj, ctlj, qj, btj, cndj⟩ b1' p1 d1 b2' p2 d2)).setCell _ _).setCell _ _).setCell _ _).setCell _ _).setCell _ _).setCell _ _
        have hWr := putAt_row (p := jn * 6) (opF ⟨kdi, ki, ctli, qi, bti, cndi⟩ a1 m1 c1 a2 m2 c2) (putAt_row (p := i * 6) (opF ⟨kdj, kj, ctlj, qj, btj, cndj⟩ b1' p1 d1 b2' p2 d2) Hg.out)
        have hWb : Only g w (putAt (putAt wr g (i * 6) (opF ⟨kdj, kj, ctlj, qj, btj, cndj⟩ b1' p1 d1 b2' p2 d2)) g (jn * 6) (opF ⟨kdi, ki, ctli, qi, bti, cndi⟩ a1 m1 c1 a2 m2 c2)) := HB.out.trans (Only.trans (putAt_only wr g (i * 6) _) (putAt_only _ g (jn * 6) _))
        have hWs : (putAt (putAt wr g (i * 6) (opF ⟨kdj, kj, ctlj, qj, btj, cndj⟩ b1' p1 d1 b2' p2 d2)) g (jn * 6) (opF ⟨kdi, ki, ctli, qi, bti, cndi⟩ a1 m1 c1 a2 m2 c2)).heap.size = wr.heap.size := by rw [putAt_size, putAt_size]
        obtain ⟨Wz, hWz⟩ : ∃ Wz, putAt (putAt wr g (i * 6) (opF ⟨kdj, kj, ctlj, qj, btj, cndj⟩ b1' p1 d1 b2' p2 d2)) g (jn * 6) (opF ⟨kdi, ki, ctli, qi, bti, cndi⟩ a1 m1 c1 a2 m2 c2) = Wz := ⟨_, rfl⟩
        rw [hWz] at hWo hWr hWb hWs
        have hki := only_ints Hg.out (by decide) hWo
        have HRz := Lib.hid (rowF_swap (w' := Wz.drew) Hl.out Hij.out (by have := Hlt.out; omega) (by rw [Hsz.out]; have := Hnc.out; omega) Hrow.out Hgi.out Hgj.out Hx6.out Hy6.out (fun _ _ _ _ _ _ _ ho => ho.keep (w' := Wz.drew) hki))
        have HWz : Hid (_ = Wz) := Lib.hid hWz
        have Hrz := Lib.hid (show Wz.drew.heap[g]? = _ from hWr); have HBz := Lib.hid (Only.drewn hWb)
        have Hs6 := Lib.hid (show (set6 (set6 cur (i * 6) (opF ⟨kdj, kj, ctlj, qj, btj, cndj⟩ b1' p1 d1 b2' p2 d2)) (jn * 6) (opF ⟨kdi, ki, ctli, qi, bti, cndi⟩ a1 m1 c1 a2 m2 c2)).size = c * 6 by rw [set6_size, set6_size]; exact Hsz.out)
        clear hWo hWr hWb hWs hWz hki
        simp only [putAt, opF] at HWz
        go_upto_region 3 with fail
        go_region
        rw [HWz.out]
        generalize Wz.drew = Wd at *
        go_wp2_with fail
        go_roundg (n - (i + 1))
        case measure => have := Hk.out; have := H2i.out; have := Hij.out; omega
        case rel => exact ⟨i + 1, j1, _, rfl, rfl, by have := Hj1.out; have := Hj.out; omega, by have := Hij.out; have := Hlt.out; omega, rfl, Hrz.out, Hs6.out, Hsp.out, HRz.out, HBz.out⟩
      · have q1' : decide ((i : Int) < j) = false := df hlt
        have hdone := half_done (ops := ops) (i := i) (by rw [Hl.out]; exact h2i) (by rw [Hl.out]; omega)
        rw [hdone] at hrow
        have HO := Lib.hid (opsN_close (base := base) (n := n) (c := c) (by rw [List.length_reverse]; exact Hl.out) Hb.out hg Hnc.out Hcm.out hsz hsep hrow)
        have HB := Lib.hid hB
        clear hdone hrow hg hsz hB hj hsep
        go_wp2_with fail
        go_end0
        exact ⟨rfl, HO.out, Rvs.of_only HB.out⟩

end Go.Proofs.YthgmlhddanbbpaaDoor
