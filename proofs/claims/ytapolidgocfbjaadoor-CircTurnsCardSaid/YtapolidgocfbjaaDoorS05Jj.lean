/-
  Copies of lists and operations, in memory of their own: as the reference makes them, and as the program does. A copy of a circuit in memory of its own: as the reference makes it, and as the program does. slices.Reverse of operations. A circuit that has a fault is not answered; what the deferred closure makes of a reader that gave up. The program's Inverse. The program's Inverse: the walk. Inverse and Power of a circuit that is not pure. Circuits undone, in plain lists: twice undone is itself; what is pure stays so.
-/
import Derived.Test.YtapolidgocfbjaaDoorProg
import Derived.Test.YtapolidgocfbjaaDoorRows
import Derived.BigQuiet
import Derived.Deep.AppendLies
import Derived.Deep.Cut
import Derived.Deep.CutRange
import Derived.Deep.LoopGhost
import Derived.Deep.QuietTactic
import Derived.Deep.RegionHeld3
import Derived.Defers
import Derived.Laws.Bits64b
import Derived.Laws.Concat
import Derived.Laws.CopyOwn
import Derived.Laws.IdiomStrings
import Derived.Laws.ResultCell
import Derived.Lib.AppendStr
import Derived.Lib.BitFns
import Derived.Lib.Hide
import Derived.Lib.ItoaMem
import Derived.Lib.ItoaNum
import Derived.Lib.Strings
import Derived.Maps.AppendAt
import Derived.OwnWalk
import Derived.Recover
import Derived.Shelf.LaysM
import Derived.Shelf.Strconv.Itoa0
import Derived.Shelf.Strconv.Itoa1
import Derived.Shelf.Strconv.Itoa2
import Derived.Shelf.Strconv.Itoa3
import Derived.Shelf.Strings.Builder1
import Derived.Shelf.Strings.BuilderF
import Derived.Shelf.Strings.BuilderK
import Derived.WalkKit
import Derived.WalkLawsBesides
import Derived.WalkSpells
import Derived.Test.YtapolidgocfbjaaDoorS00Ce
import Derived.Test.YtapolidgocfbjaaDoorS01Cj
import Derived.Test.YtapolidgocfbjaaDoorShelf
import Derived.Test.YtapolidgocfbjaaDoorS03Cq
import Derived.Test.YtapolidgocfbjaaDoorS04Ka
namespace Go.Proofs.YtapolidgocfbjaaDoor
open Go.RowKit

set_option maxHeartbeats 2000000 in
theorem copyInts_own (ao : Option Addr) (n c : Nat) (l : List Int) (w : World) (h : IntsAt w ao n l) (hb : n * 8 ≤ 140737488355328) :
    Calls Tryd.prog 41 #[.slice ao n c] w fun e w' => (∃ (a' : Option Addr) (c' : Nat), e = .returned (.slice a' n c') ∧ Iow w' w.heap.size a' n c' l) ∧ Ext w w' := by
  obtain ⟨i0, hi, hz0, hz1, hz2⟩ := info_parts i_info
  have Hl := Lib.hid h.1
  have H := Lib.hid h
  clear h
  go_enter Tryd.func41, Tryd.ntmps41
  go_wp2_with fail
  go_loopg [3, 4] n (fun k s3 s4 wr => Ext w wr ∧ ∃ i : Nat, s4 = .int .i64 (i : Int) ∧ i ≤ n ∧ n - i = k ∧ wr.ownsRow w.heap.size 3 1 s3 i (iC (l.take i)))
  case atStart => exact ⟨Ext.refl _, 0, rfl, by omega, by omega, ⟨rfl, Or.inl ⟨rfl, rfl⟩⟩⟩
  case round =>
    obtain ⟨hER, i, rfl, hi', hk, hown⟩ := hrel
    have HER := Lib.hid hER; have Hown := Lib.hid hown
    clear hER hown
    by_cases hin : i = n
    · have h2 : ¬ (i : Int) < (n : Int) := by omega
      have ho := Hown.out
      rw [List.take_of_length_le (by rw [Hl.out]; omega), hin] at ho
      obtain ⟨a', c', e, e1⟩ := io_of_own ho
      subst e
      have HI := Lib.hid e1
      clear ho e1 Hown
      go_wp2_with fail
      go_ret
      exact ⟨⟨a', c', rfl, HI.out⟩, HER.out⟩
    · have h2 : (i : Int) < (n : Int) := by omega
      have h0 : (0 : Int) ≤ (i : Int) := by omega
      obtain ⟨b, o, rfl, hbl, hcell⟩ := (H.out.ext HER.out).at (by omega)
      have hci := hcell i (by omega)
      obtain ⟨y, hy⟩ : ∃ y, l.getD i 0 = y := ⟨_, rfl⟩
      rw [hy] at hci
      have hst : iC (l.take (i + 1)) = iC (l.take i) ++ [.int .i64 y] := by
        rw [← hy, List.take_add_one, List.getElem?_eq_getElem (by rw [Hl.out]; omega), ← iC_snoc, List.getD_eq_getElem?_getD, List.getElem?_eq_getElem (by rw [Hl.out]; omega)]
        rfl
      have Hst := Lib.hid hst
      clear hcell hy hst hbl
      go_wp2_with (at_builtin; refine wpList_append_own _ rfl _ _ 25 rfl w.heap.size 3 i0 (.int .i64 0) 1 8 Tryd.underlying25 hi hz0 hz1 hz2 rfl (by decide) _ i (iC (l.take i)) rfl (Hown.out.alloc _) ⟨wr.heap.size, 0, none⟩ 1 1 [.int .i64 y] rfl rfl (new_i wr y _) (one_i y) (by unfold maxLen; omega) (by omega) (Nat.le_trans HER.out.size (ext_al wr _).size) ?_; intro v' w7 hown' hgrow' _)
      go_roundg (n - (i + 1))
      case measure => omega
      case rel => exact ⟨grown_ext (HER.out.trans (ext_al wr _)) hgrow' (fun k hk => (own_lt Hown.out k hk).1), i + 1, by go_num, by omega, rfl, by rw [Hst.out]; exact hown'⟩

set_option maxHeartbeats 2000000 in
set_option maxRecDepth 100000 in
theorem copyOp_N (o : Gop) (a1 : Option Addr) (n1 c1 : Nat) (a2 : Option Addr) (n2 c2 : Nat) (w : World) (h : OpL w o a1 n1 c1 a2 n2 c2) (hb1 : n1 * 8 ≤ 140737488355328) (hb2 : n2 * 8 ≤ 140737488355328) :
    Calls Tryd.prog 22 #[.agg #[.int .i64 o.kind, .int .i64 o.k, .slice a1 n1 c1, .int .i64 o.q, .int .i64 o.bit, .slice a2 n2 c2]] w fun e w' => (∃ (a1' : Option Addr) (c1' : Nat) (a2' : Option Addr) (c2' : Nat), e = .returned (.agg #[.int .i64 o.kind, .int .i64 o.k, .slice a1' n1 c1', .int .i64 o.q, .int .i64 o.bit, .slice a2' n2 c2']) ∧ OpN w' w.heap.size o a1' n1 c1' a2' n2 c2') ∧ Ext w w' := by
  obtain ⟨kd, k, ctl, q, bt, cnd⟩ := o
  have E0 := (ext_al w (.cells #[.int .i64 kd, .int .i64 k, .slice a1 n1 c1, .int .i64 q, .int .i64 bt, .slice a2 n2 c2] 43)).trans (ext_al _ (.cells #[.int .i64 0, .int .i64 0, .slice none 0 0, .int .i64 0, .int .i64 0, .slice none 0 0] 43))
  have bx := (opbx_new w kd k a1 n1 c1 q bt a2 n2 c2).ext (ext_al _ (.cells #[.int .i64 0, .int .i64 0, .slice none 0 0, .int .i64 0, .int .i64 0, .slice none 0 0] 43))
  have br := opbx_new (w.alloc (.cells #[.int .i64 kd, .int .i64 k, .slice a1 n1 c1, .int .i64 q, .int .i64 bt, .slice a2 n2 c2] 43)) 0 0 none 0 0 0 0 none 0 0
  rw [show (w.alloc (.cells #[.int .i64 kd, .int .i64 k, .slice a1 n1 c1, .int .i64 q, .int .i64 bt, .slice a2 n2 c2] 43)).heap.size = w.heap.size + 1 from by simp] at br
  have HE0 := Lib.hid E0; have HL := Lib.hid (h.ext E0); have H0 := Lib.hid h; have Hbx := Lib.hid bx; have Hbr := Lib.hid br
  have m2 := bx.x2
  simp only
  clear h E0 bx br
  go_enter Tryd.func22, Tryd.ntmps22
  go_wp2_with fail
  generalize (w.alloc (.cells #[.int .i64 kd, .int .i64 k, .slice a1 n1 c1, .int .i64 q, .int .i64 bt, .slice a2 n2 c2] 43)).alloc (.cells #[.int .i64 0, .int .i64 0, .slice none 0 0, .int .i64 0, .int .i64 0, .slice none 0 0] 43) = W0 at *
  clear m2
  refine (copyInts_own a1 n1 c1 ctl W0 HL.out.i1 hb1).mono ?_
  rintro e w1 ⟨⟨a3, c3, rfl, I3⟩, hx1⟩
  have b1 := Hbx.out.ext hx1
  have y2 := b1.x2; have y5 := b1.x5; have f2 := b1.f 2
  have b2 := b1.set2 a3 n1 c3
  have hk1 := only_ints b1.row (by decide) (only1 w1 w.heap.size 2 (.slice a3 n1 c3))
  have I4 := I3.keep hk1
  have Hlt := Lib.hid (fun k hk => (I4.lt k hk).2)
  have HW0 := Lib.hid HE0.out.size
  have HE1 := Lib.hid (p := Ext w _) (Below.setCell (HE0.out.trans hx1) (p := ⟨w.heap.size, 2, none⟩) (Nat.le_refl _) (.slice a3 n1 c3))
  have br2 : OpBx (w1.setCell ⟨w.heap.size, 2, none⟩ (.slice a3 n1 c3)) (w.heap.size + 1) 0 0 none 0 0 0 0 none 0 0 := ⟨((only1 w1 w.heap.size 2 (.slice a3 n1 c3)).block _ (by omega)).trans (Hbr.out.ext hx1).row⟩
  have J2 := H0.out.i2.ext HE1.out
  have z5 := b2.x5
  have Hb2 := Lib.hid b2; have Hbr2 := Lib.hid br2; have HI4 := Lib.hid I4; have HJ2 := Lib.hid J2
  have HW2 := Lib.hid (HE1.out.size)
  clear b1 b2 br2 I3 I4 J2 hk1 HL
  go_wp2_with fail
  generalize w1.setCell ⟨w.heap.size, 2, none⟩ (.slice a3 n1 c3) = W2 at *
  clear y2 y5 f2 z5
  refine (copyInts_own a2 n2 c2 cnd W2 HJ2.out hb2).mono ?_
  rintro e w3 ⟨⟨a5, c5, rfl, I5⟩, hx3⟩
  have b3 := Hb2.out.ext hx3
  have y5 := b3.x5; have f5 := b3.f 5
  have b4 := b3.set5 a5 n2 c5
  have hk3 := only_ints b3.row (by decide) (only1 w3 w.heap.size 5 (.slice a5 n2 c5))
  have I6 := (HI4.out.ext hx3).keep hk3
  have I7 := I5.keep hk3
  have HE3 := Lib.hid (p := Ext w _) (Below.setCell (Ext.trans HE1.out hx3) (p := ⟨w.heap.size, 5, none⟩) (Nat.le_refl _) (.slice a5 n2 c5))
  have br4 : OpBx (w3.setCell ⟨w.heap.size, 5, none⟩ (.slice a5 n2 c5)) (w.heap.size + 1) 0 0 none 0 0 0 0 none 0 0 := ⟨((only1 w3 w.heap.size 5 (.slice a5 n2 c5)).block _ (by omega)).trans (Hbr2.out.ext hx3).row⟩
  have hk4 := only_ints br4.row (by decide) (onl6 (w3.setCell ⟨w.heap.size, 5, none⟩ (.slice a5 n2 c5)) (w.heap.size + 1) (.int .i64 kd) (.int .i64 k) (.slice a3 n1 c3) (.int .i64 q) (.int .i64 bt) (.slice a5 n2 c5))
  have HI8 := Lib.hid (I6.keep hk4); have HI9 := Lib.hid (I7.keep hk4)
  have Hne := Lib.hid (show ∀ k, (Value.slice a3 n1 c3).ownBlock = some k → (Value.slice a5 n2 c5).ownBlock ≠ some k from fun k h1 h2 => by
    have h3 := Hlt.out k h1
    have h4 := (I7.lt k h2).1
    omega)
  have p0 := b4.x0; have p1 := b4.x1; have p2 := b4.x2; have p3 := b4.x3; have p4 := b4.x4; have p5 := b4.x5
  have r0 := br4.x0; have r1 := br4.x1; have r2 := br4.x2; have r3 := br4.x3; have r4 := br4.x4; have r5 := br4.x5
  have g0 := br4.f 0; have g1 := br4.f 1; have g2 := br4.f 2; have g3 := br4.f 3; have g4 := br4.f 4; have g5 := br4.f 5
  clear b3 b4 br4 I5 I6 I7 hk3 hk4 hx3 hx1
  go_wp2_with fail
  exact bodyPost_ret (v := .agg #[.int .i64 kd, .int .i64 k, .slice a3 n1 c3, .int .i64 q, .int .i64 bt, .slice a5 n2 c5]) (by simp [results, Tryd.results22, go_sem, r0, r1, r2, r3, r4, r5]) rfl ⟨⟨a3, c3, a5, c5, rfl, ⟨HI8.out.down (by have := HW0.out; omega), HI9.out.down (by have := HW2.out; omega), Hne.out⟩⟩, put6 HE3.out (by omega) _ _ _ _ _ _⟩

set_option maxHeartbeats 4000000 in
set_option maxRecDepth 100000 in
theorem ccopyOp_N (o : Gop) (a1 : Option Addr) (n1 c1 : Nat) (a2 : Option Addr) (n2 c2 : Nat) (w : World) (h : OpL w o a1 n1 c1 a2 n2 c2) (hb1 : n1 * 8 ≤ 140737488355328) (hb2 : n2 * 8 ≤ 140737488355328) :
    Calls Tryd.prog 43 #[.agg #[.int .i64 o.kind, .int .i64 o.k, .slice a1 n1 c1, .int .i64 o.q, .int .i64 o.bit, .slice a2 n2 c2]] w fun e w' => (∃ (a1' : Option Addr) (c1' : Nat) (a2' : Option Addr) (c2' : Nat), e = .returned (.agg #[.int .i64 o.kind, .int .i64 o.k, .slice a1' n1 c1', .int .i64 o.q, .int .i64 o.bit, .slice a2' n2 c2']) ∧ OpN w' w.heap.size o a1' n1 c1' a2' n2 c2') ∧ Ext w w' := by
  obtain ⟨kd, k, ctl, q, bt, cnd⟩ := o
  have E0 := (ext_al w (.cells #[.int .i64 kd, .int .i64 k, .slice a1 n1 c1, .int .i64 q, .int .i64 bt, .slice a2 n2 c2] 43)).trans (ext_al _ (.cells #[.int .i64 0, .int .i64 0, .slice none 0 0, .int .i64 0, .int .i64 0, .slice none 0 0] 43))
  have bx := (opbx_new w kd k a1 n1 c1 q bt a2 n2 c2).ext (ext_al _ (.cells #[.int .i64 0, .int .i64 0, .slice none 0 0, .int .i64 0, .int .i64 0, .slice none 0 0] 43))
  have br := opbx_new (w.alloc (.cells #[.int .i64 kd, .int .i64 k, .slice a1 n1 c1, .int .i64 q, .int .i64 bt, .slice a2 n2 c2] 43)) 0 0 none 0 0 0 0 none 0 0
  rw [show (w.alloc (.cells #[.int .i64 kd, .int .i64 k, .slice a1 n1 c1, .int .i64 q, .int .i64 bt, .slice a2 n2 c2] 43)).heap.size = w.heap.size + 1 from by simp] at br
  have HE0 := Lib.hid E0; have HL := Lib.hid (h.ext E0); have Hbx := Lib.hid bx; have Hbr := Lib.hid br
  simp only
  clear h E0 bx br
  go_enter Tryd.func43, Tryd.ntmps43
  go_upto_region 1 with fail
  generalize (w.alloc (.cells #[.int .i64 kd, .int .i64 k, .slice a1 n1 c1, .int .i64 q, .int .i64 bt, .slice a2 n2 c2] 43)).alloc (.cells #[.int .i64 0, .int .i64 0, .slice none 0 0, .int .i64 0, .int .i64 0, .slice none 0 0] 43) = W0 at *
  have hd0 : Ext W0 W0.drew := Below.drew (Ext.refl _)
  have HC1 := Lib.hid (fun wx (hx : Ext W0 wx) => copyList_any a1 n1 c1 ctl wx (HL.out.i1.ext hx) hb1)
  have HC2 := Lib.hid (fun wx (hx : Ext W0 wx) => copyList_any a2 n2 c2 cnd wx (HL.out.i2.ext hx) hb2)
  have v2 := Hbx.out.x2; have v5 := Hbx.out.x5
  refine wp_region_K 7 (fun w' => w'.cell? ⟨w.heap.size, 2, none⟩ = some (.slice a1 n1 c1) ∧ w'.cell? ⟨w.heap.size, 5, none⟩ = some (.slice a2 n2 c2)) (by kernel_rfl) ?_
  show anyK _ _ _ _ _ _ 10 #[false, false, false, false, false, false, false, false, false, false] _ _
  have hHeld : W0.drew.cell? ⟨w.heap.size, 2, none⟩ = some (.slice a1 n1 c1) ∧ W0.drew.cell? ⟨w.heap.size, 5, none⟩ = some (.slice a2 n2 c2) := ⟨v2, v5⟩
  refine anyK_take (i := 0) (v := ?_) rfl (by kernel_rfl) (by kernel_rfl) (by kernel_rfl) (N := 10) (by kernel_rfl) (by kernel_rfl) (by kernel_rfl) (fun _ _ _ h => h) (Or.inl ⟨by rfl, ?_⟩) hHeld ?_
  rotate_left 1
  · intro w hSw
    go_simp
    try with_reducible rfl
  show anyK _ _ _ _ _ _ _ _ (Act.put _ (some 3) _) _
  simp only [Act.put, List.setIfInBounds_toArray, List.set_cons_zero, List.set_cons_succ]
  refine anyK_take (i := 1) (v := ?_) rfl (by kernel_rfl) (by kernel_rfl) (by kernel_rfl) (N := 10) (by kernel_rfl) (by kernel_rfl) (by kernel_rfl) (fun _ _ _ h => h) (Or.inl ⟨by rfl, ?_⟩) hHeld ?_
  rotate_left 1
  · intro w hSw
    go_simp
    try with_reducible rfl
  show anyK _ _ _ _ _ _ _ _ (Act.put _ (some 4) _) _
  simp only [Act.put, List.setIfInBounds_toArray, List.set_cons_zero, List.set_cons_succ]
  refine anyK_take (i := 3) (v := ?_) rfl (by kernel_rfl) (by kernel_rfl) (by kernel_rfl) (N := 10) (by kernel_rfl) (by kernel_rfl) (by kernel_rfl) (fun _ _ _ h => h) (Or.inl ⟨by rfl, ?_⟩) hHeld ?_
  rotate_left 1
  · intro w hSw
    go_simp
    try with_reducible rfl
  show anyK _ _ _ _ _ _ _ _ (Act.put _ (some 6) _) _
  simp only [Act.put, List.setIfInBounds_toArray, List.set_cons_zero, List.set_cons_succ]
  refine anyK_take (i := 4) (v := ?_) rfl (by kernel_rfl) (by kernel_rfl) (by kernel_rfl) (N := 10) (by kernel_rfl) (by kernel_rfl) (by kernel_rfl) (fun _ _ _ h => h) (Or.inl ⟨by rfl, ?_⟩) hHeld ?_
  rotate_left 1
  · intro w hSw
    go_simp
    try with_reducible rfl
  show anyK _ _ _ _ _ _ _ _ (Act.put _ (some 7) _) _
  simp only [Act.put, List.setIfInBounds_toArray, List.set_cons_zero, List.set_cons_succ]
  clear hHeld
  refine anyK_one (i := 2) (by kernel_rfl) rfl (fun Kk hKk => ?_)
  go_simp
  (go_at_call 52; refine (HC1.out _ hd0).mono ?_; rintro e w4 ⟨v', rfl, hown1, hx4⟩)
  obtain ⟨a3, c3, rfl, I3⟩ := io_of_own hown1
  have hx4' := hd0.trans hx4
  have b4 := Hbx.out.ext hx4'
  have x2 := b4.x2; have x5 := b4.x5
  go_wp2_with fail
  refine hKk.out _ _ (fun _ => ⟨x2, x5⟩) ?_
  clear hKk Kk
  simp only [List.setIfInBounds_toArray, List.set_cons_zero, List.set_cons_succ]
  have hHeld : w4.cell? ⟨w.heap.size, 2, none⟩ = some (.slice a1 n1 c1) ∧ w4.cell? ⟨w.heap.size, 5, none⟩ = some (.slice a2 n2 c2) := ⟨x2, x5⟩
  refine anyK_take (i := 6) (v := ?_) rfl (by kernel_rfl) (by kernel_rfl) (by kernel_rfl) (N := 10) (by kernel_rfl) (by kernel_rfl) (by kernel_rfl) (fun _ _ _ h => h) (Or.inl ⟨by rfl, ?_⟩) hHeld ?_
  rotate_left 1
  · intro w hSw
    go_simp
    try with_reducible rfl
  show anyK _ _ _ _ _ _ _ _ (Act.put _ (some 9) _) _
  simp only [Act.put, List.setIfInBounds_toArray, List.set_cons_zero, List.set_cons_succ]
  clear hHeld
  refine anyK_one (i := 5) (by kernel_rfl) rfl (fun Kk hKk => ?_)
  go_simp
  (have _ := hx4; go_at_call 52; refine (HC2.out _ hx4').mono ?_; rintro e w5 ⟨v'', rfl, hown2, hx5⟩)
  obtain ⟨a5, c5, rfl, I5⟩ := io_of_own hown2
  have Hne := Lib.hid (show ∀ k, (Value.slice a3 n1 c3).ownBlock = some k → (Value.slice a5 n2 c5).ownBlock ≠ some k from fun k h1 h2 => by
    have h3 := (I3.lt k h1).2
    have h4 := (I5.lt k h2).1
    omega)
  have HW4 := Lib.hid (HE0.out.trans hx4').size; have HW0 := Lib.hid HE0.out.size
  have hx5' := hx4'.trans hx5
  have b5 := Hbx.out.ext hx5'
  have y2 := b5.x2; have y5 := b5.x5; have z2 := b5.f 2
  go_wp2_with fail
  refine hKk.out _ _ (fun _ => ⟨y2, y5⟩) ?_
  clear hKk Kk
  simp only [List.setIfInBounds_toArray, List.set_cons_zero, List.set_cons_succ]
  refine anyK_one (i := 7) (by kernel_rfl) rfl (fun Kk hKk => ?_)
  refine stepK_storeI rfl rfl _ _ rfl w.heap.size 2 a3 n1 c3 (.slice a1 n1 c1) rfl rfl y2 z2 ?_
  refine hKk.out _ _ (fun h => Bool.noConfusion (show true = false from h)) ?_
  clear hKk Kk
  simp only [List.setIfInBounds_toArray, List.set_cons_zero, List.set_cons_succ]
  have b6 := b5.set2 a3 n1 c3
  have hk1 := only_ints b5.row (by decide) (only1 w5 w.heap.size 2 (.slice a3 n1 c3))
  have I6 := (I3.ext hx5).keep hk1
  have I7 := I5.keep hk1
  have HE6 := Lib.hid (p := Ext w _) (Below.setCell (HE0.out.trans hx5') (p := ⟨w.heap.size, 2, none⟩) (Nat.le_refl _) (.slice a3 n1 c3))
  have br6 : OpBx (w5.setCell ⟨w.heap.size, 2, none⟩ (.slice a3 n1 c3)) (w.heap.size + 1) 0 0 none 0 0 0 0 none 0 0 := ⟨((only1 w5 w.heap.size 2 (.slice a3 n1 c3)).block _ (by omega)).trans (Hbr.out.ext hx5').row⟩
  have u5 := b6.x5; have s5 := b6.f 5
  clear b4 b5 x2 x5 y2 y5 z2 I3 I5 hk1 hx4 hx5 hx4' hx5' hown1 hown2 v2 v5 hd0
  generalize w5.setCell ⟨w.heap.size, 2, none⟩ (.slice a3 n1 c3) = W6 at *
  refine anyK_one (i := 8) (by kernel_rfl) rfl (fun Kk hKk => ?_)
  go_wp2_with fail
  refine hKk.out _ _ (fun h => Bool.noConfusion (show true = false from h)) ?_
  clear hKk Kk
  simp only [List.setIfInBounds_toArray, List.set_cons_zero, List.set_cons_succ]
  refine anyK_one (i := 9) (by kernel_rfl) rfl (fun Kk hKk => ?_)
  refine stepK_storeI rfl rfl _ _ rfl w.heap.size 5 a5 n2 c5 (.slice a2 n2 c2) rfl rfl u5 s5 ?_
  refine hKk.out _ _ (fun h => Bool.noConfusion (show true = false from h)) ?_
  clear hKk Kk
  simp only [List.setIfInBounds_toArray, List.set_cons_zero, List.set_cons_succ]
  refine anyK_done (by kernel_rfl) ?_ _
  have b8 := b6.set5 a5 n2 c5
  have hk3 := only_ints b6.row (by decide) (only1 W6 w.heap.size 5 (.slice a5 n2 c5))
  have I8 := I6.keep hk3
  have I9 := I7.keep hk3
  have HE8 := Lib.hid (p := Ext w _) (Below.setCell HE6.out (p := ⟨w.heap.size, 5, none⟩) (Nat.le_refl _) (.slice a5 n2 c5))
  have br8 : OpBx (W6.setCell ⟨w.heap.size, 5, none⟩ (.slice a5 n2 c5)) (w.heap.size + 1) 0 0 none 0 0 0 0 none 0 0 := ⟨((only1 W6 w.heap.size 5 (.slice a5 n2 c5)).block _ (by omega)).trans br6.row⟩
  clear b6 br6 I6 I7 hk3 u5 s5 HE6
  generalize W6.setCell ⟨w.heap.size, 5, none⟩ (.slice a5 n2 c5) = W8 at *
  have hk4 := only_ints br8.row (by decide) (onl6 W8 (w.heap.size + 1) (.int .i64 kd) (.int .i64 k) (.slice a3 n1 c3) (.int .i64 q) (.int .i64 bt) (.slice a5 n2 c5))
  have HI8 := Lib.hid (I8.keep hk4); have HI9 := Lib.hid (I9.keep hk4)
  have p0 := b8.x0; have p1 := b8.x1; have p2 := b8.x2; have p3 := b8.x3; have p4 := b8.x4; have p5 := b8.x5
  have r0 := br8.x0; have r1 := br8.x1; have r2 := br8.x2; have r3 := br8.x3; have r4 := br8.x4; have r5 := br8.x5
  have g0 := br8.f 0; have g1 := br8.f 1; have g2 := br8.f 2; have g3 := br8.f 3; have g4 := br8.f 4; have g5 := br8.f 5
  clear b8 br8 I8 I9 hk4
  go_wp2_with fail
  exact bodyPost_ret (v := .agg #[.int .i64 kd, .int .i64 k, .slice a3 n1 c3, .int .i64 q, .int .i64 bt, .slice a5 n2 c5]) (by simp [results, Tryd.results43, go_sem, r0, r1, r2, r3, r4, r5]) rfl ⟨⟨a3, c3, a5, c5, rfl, ⟨HI8.out.down (by have h1 := HW0.out; simpa using h1), HI9.out.down HW4.out, Hne.out⟩⟩, put6 HE8.out (by omega) _ _ _ _ _ _⟩

end Go.Proofs.YtapolidgocfbjaaDoor
namespace Go.Proofs.YtapolidgocfbjaaDoor
open Go.RowKit

set_option maxHeartbeats 8000000 in
set_option maxRecDepth 100000 in
theorem CopyCircuit_N (c : Gci) (ao : Option Addr) (n cp : Nat) (w : World) (h : OpsAt w ao n c.ops) (hbn : n * 80 ≤ 140737488355328) (hbl : ∀ g ∈ c.ops, g.ctl.length * 8 ≤ 140737488355328 ∧ g.cnd.length * 8 ≤ 140737488355328) :
    Calls Tryd.prog 6 #[.agg #[.int .i64 c.qubits, .int .i64 c.bits, .slice ao n cp]] w fun e w' => (∃ (a' : Option Addr) (c' : Nat), e = .returned (.agg #[.int .i64 c.qubits, .int .i64 c.bits, .slice a' n c']) ∧ OpsN w' w.heap.size (.slice a' n c') c.ops) ∧ Ext w w' := by
  obtain ⟨qb, bi, ops⟩ := c
  obtain ⟨i0, hi, hz0, hz1, hz2⟩ := info_parts op_info
  obtain ⟨H, hH⟩ : ∃ H, w.heap.size = H := ⟨_, rfl⟩
  have HhH := Lib.hid hH
  have E0 := ((ext_al w (.cells #[.int .i64 qb, .int .i64 bi, .slice ao n cp] 24)).trans (ext_al _ (.cells #[.int .i64 0, .int .i64 0, .slice none 0 0] 24))).trans (ext_al _ (.cells #[.int .i64 qb, .int .i64 bi, .slice none 0 0] 24))
  have bC : CiB (((w.alloc (.cells #[.int .i64 qb, .int .i64 bi, .slice ao n cp] 24)).alloc (.cells #[.int .i64 0, .int .i64 0, .slice none 0 0] 24)).alloc (.cells #[.int .i64 qb, .int .i64 bi, .slice none 0 0] 24)) w.heap.size qb bi ao n cp := (CiB.ext ⟨heap_alloc_new w _⟩ (ext_al _ _)).ext (ext_al _ _)
  have bR : CiB (((w.alloc (.cells #[.int .i64 qb, .int .i64 bi, .slice ao n cp] 24)).alloc (.cells #[.int .i64 0, .int .i64 0, .slice none 0 0] 24)).alloc (.cells #[.int .i64 qb, .int .i64 bi, .slice none 0 0] 24)) (w.heap.size + 1) 0 0 none 0 0 := CiB.ext ⟨by
    have := heap_alloc_new (w.alloc (.cells #[.int .i64 qb, .int .i64 bi, .slice ao n cp] 24)) (.cells #[.int .i64 0, .int .i64 0, .slice none 0 0] 24)
    simpa using this⟩ (ext_al _ _)
  have bO : CiB (((w.alloc (.cells #[.int .i64 qb, .int .i64 bi, .slice ao n cp] 24)).alloc (.cells #[.int .i64 0, .int .i64 0, .slice none 0 0] 24)).alloc (.cells #[.int .i64 qb, .int .i64 bi, .slice none 0 0] 24)) (w.heap.size + 2) qb bi none 0 0 := ⟨by
    have := heap_alloc_new ((w.alloc (.cells #[.int .i64 qb, .int .i64 bi, .slice ao n cp] 24)).alloc (.cells #[.int .i64 0, .int .i64 0, .slice none 0 0] 24)) (.cells #[.int .i64 qb, .int .i64 bi, .slice none 0 0] 24)
    simpa using this⟩
  have Hl := Lib.hid h.1
  have HE0 := Lib.hid E0; have HOp := Lib.hid (h.ext E0); have Hops0 := Lib.hid h; have HC := Lib.hid bC; have HR := Lib.hid bR; have HO := Lib.hid bO; have Hbl := Lib.hid hbl
  have HoldA : Hid (n = 0 ∨ ∃ b o, ao = some ⟨b, o, none⟩ ∧ b < w.heap.size) := by
    rcases h.2 with h0 | ⟨b, o, e, hb, _⟩
    · exact Or.inl h0
    · exact Or.inr ⟨b, o, e, hb⟩
  simp only at Hl ⊢
  clear h E0 bC bR bO hbl
  go_enter Tryd.func6, Tryd.ntmps6
  go_wp2_with fail
  generalize ((w.alloc (.cells #[.int .i64 qb, .int .i64 bi, .slice ao n cp] 24)).alloc (.cells #[.int .i64 0, .int .i64 0, .slice none 0 0] 24)).alloc (.cells #[.int .i64 qb, .int .i64 bi, .slice none 0 0] 24) = W0 at *
  obtain ⟨base, hbase⟩ : ∃ base, W0.heap.size = base := ⟨_, rfl⟩
  have HoutL : Hid (w.heap.size + 2 < W0.heap.size) := HO.out.lt
  have hH3 : H + 2 < base := by have := HoutL.out; omega
  rw [hH] at HoutL HC HR HO
  go_loopg [4] n (fun kk s4 wr => ∃ (i : Nat) (av : Option Addr) (cv : Nat), s4 = .int .i64 (i : Int) ∧ i ≤ n ∧ n - i = kk ∧ CiB wr H qb bi ao n cp ∧ CiB wr (H + 1) 0 0 none 0 0 ∧ CiB wr (H + 2) qb bi av i cv ∧ OpsAt wr ao n ops ∧ OpsN wr base (.slice av i cv) (ops.take i) ∧ Ext w wr ∧ base ≤ wr.heap.size)
  case atStart => exact ⟨0, none, 0, rfl, by omega, by omega, HC.out, HR.out, HO.out, HOp.out, OpsN.nil _ _, HE0.out, by omega⟩
  case round =>
    clear HC HR HO HOp HE0
    obtain ⟨i, av, cv, rfl, hin', hk, bC, bR, bO, hops, hown, hER, hbs⟩ := hrel
    have HC := Lib.hid bC; have HR := Lib.hid bR; have Hout := Lib.hid bO; have HOp := Lib.hid hops; have Hown := Lib.hid hown; have HER := Lib.hid hER
    have v0 := bO.x2; have v2 := bC.x2
    by_cases hin : i = n
    · have h2 : ¬ (i : Int) < (n : Int) := by omega
      have ho := hown
      rw [List.take_of_length_le (by rw [Hl.out]; omega)] at ho
      subst hin
      have x0 := bO.x0; have x1 := bO.x1; have r0 := bR.x0; have r1 := bR.x1; have r2 := bR.x2; have g0 := bR.f 0; have g1 := bR.f 1; have g2 := bR.f 2
      have hO3 : Only (H + 1) wr (((wr.setCell ⟨H + 1, 0, none⟩ (.int .i64 qb)).setCell ⟨H + 1, 1, none⟩ (.int .i64 bi)).setCell ⟨H + 1, 2, none⟩ (.slice av i cv)) := (((Only.refl _ _).setCell _ _).setCell _ _).setCell _ _
      have Hat := Lib.hid ((ho.only bR.row (by decide) hO3 (by omega)).down (show H ≤ base by omega))
      clear bC bR bO hops hown hER ho hO3
      go_wp2_with fail
      exact bodyPost_ret (v := .agg #[.int .i64 qb, .int .i64 bi, .slice av i cv]) (by simp [results, Tryd.results6, go_sem, r0, r1, r2]) rfl ⟨⟨av, cv, rfl, Hat.out⟩, Below.setCell (Below.setCell (Below.setCell HER.out (p := ⟨H + 1, 0, none⟩) (show w.heap.size ≤ H + 1 by have := HhH.out; omega) _) (p := ⟨H + 1, 1, none⟩) (show w.heap.size ≤ H + 1 by have := HhH.out; omega) _) (p := ⟨H + 1, 2, none⟩) (show w.heap.size ≤ H + 1 by have := HhH.out; omega) _⟩
    · have h2 : (i : Int) < (n : Int) := by omega
      have h0 : (0 : Int) ≤ (i : Int) := by omega
      rcases HoldA.out with h | ⟨b, o, rfl, hbw⟩
      · omega
      have HbB : Hid (b < base) := by show b < base; omega
      obtain ⟨gg, hg⟩ : ∃ g, ops[i]? = some g := ⟨_, List.getElem?_eq_getElem (by rw [Hl.out]; omega)⟩
      obtain ⟨a1, n1, c1, a2, n2, c2, e0, e1, e2, e3, e4, e5, hL⟩ := hops.at i gg hg
      have hbl := Hbl.out gg (List.mem_of_getElem? hg)
      rw [hL.i1.1, hL.i2.1] at hbl
      have hst : ops.take (i + 1) = ops.take i ++ [gg] := by rw [List.take_add_one, hg]; rfl
      have Hst := Lib.hid hst
      have HCp := Lib.hid (fun wx (hx : Ext wr wx) => copyOp_N gg a1 n1 c1 a2 n2 c2 wx (hL.ext hx) hbl.1 hbl.2)
      obtain ⟨kd, kk', ctl, qq, bb, cnd⟩ := gg
      simp only at e0 e1 e2 e3 e4 e5 HCp
      clear bC bR bO hops hown hER hL hst hbl hg
      go_wp2_with fail
      have hE0d : Ext wr wr.drew := Below.drew (Ext.refl _)
      refine wp_region_K 11 (fun w' => w'.cell? ⟨H + 2, 2, none⟩ = some (.slice av i cv) ∧ w'.cell? ⟨H, 2, none⟩ = some (.slice (some ⟨b, o, none⟩) n cp) ∧ w'.cell? ⟨b, o + i * 6, none⟩ = some (.int .i64 kd) ∧ w'.cell? ⟨b, o + i * 6 + 1, none⟩ = some (.int .i64 kk') ∧ w'.cell? ⟨b, o + i * 6 + 2, none⟩ = some (.slice a1 n1 c1) ∧ w'.cell? ⟨b, o + i * 6 + 3, none⟩ = some (.int .i64 qq) ∧ w'.cell? ⟨b, o + i * 6 + 4, none⟩ = some (.int .i64 bb) ∧ w'.cell? ⟨b, o + i * 6 + 5, none⟩ = some (.slice a2 n2 c2)) (by kernel_rfl) ?_
      show anyK _ _ _ _ _ _ 12 #[false, false, false, false, false, false, false, false, false, false, false, false] _ _
      have hHeld : wr.drew.cell? ⟨H + 2, 2, none⟩ = some (.slice av i cv) ∧ wr.drew.cell? ⟨H, 2, none⟩ = some (.slice (some ⟨b, o, none⟩) n cp) ∧ wr.drew.cell? ⟨b, o + i * 6, none⟩ = some (.int .i64 kd) ∧ wr.drew.cell? ⟨b, o + i * 6 + 1, none⟩ = some (.int .i64 kk') ∧ wr.drew.cell? ⟨b, o + i * 6 + 2, none⟩ = some (.slice a1 n1 c1) ∧ wr.drew.cell? ⟨b, o + i * 6 + 3, none⟩ = some (.int .i64 qq) ∧ wr.drew.cell? ⟨b, o + i * 6 + 4, none⟩ = some (.int .i64 bb) ∧ wr.drew.cell? ⟨b, o + i * 6 + 5, none⟩ = some (.slice a2 n2 c2) := ⟨cell_ext v0 hE0d, cell_ext v2 hE0d, cell_ext e0 hE0d, cell_ext e1 hE0d, cell_ext e2 hE0d, cell_ext e3 hE0d, cell_ext e4 hE0d, cell_ext e5 hE0d⟩
      refine anyK_take (i := 0) (v := ?_) rfl (by kernel_rfl) (by kernel_rfl) (by kernel_rfl) (N := 8) (by kernel_rfl) (by kernel_rfl) (by kernel_rfl) (fun _ _ _ h => h) (Or.inl ⟨by rfl, ?_⟩) hHeld ?_
      rotate_left 1
      · intro w hSw
        go_simp
        try with_reducible rfl
      show anyK _ _ _ _ _ _ _ _ (Act.put _ (some 17) _) _
      simp only [Act.put, List.setIfInBounds_toArray, List.set_cons_zero, List.set_cons_succ]
      refine anyK_take (i := 1) (v := ?_) rfl (by kernel_rfl) (by kernel_rfl) (by kernel_rfl) (N := 8) (by kernel_rfl) (by kernel_rfl) (by kernel_rfl) (fun _ _ _ h => h) (Or.inl ⟨by rfl, ?_⟩) hHeld ?_
      rotate_left 1
      · intro w hSw
        go_simp
        try with_reducible rfl
      show anyK _ _ _ _ _ _ _ _ (Act.put _ (some 18) _) _
      simp only [Act.put, List.setIfInBounds_toArray, List.set_cons_zero, List.set_cons_succ]
      refine anyK_take (i := 2) (v := ?_) rfl (by kernel_rfl) (by kernel_rfl) (by kernel_rfl) (N := 8) (by kernel_rfl) (by kernel_rfl) (by kernel_rfl) (fun _ _ _ h => h) (Or.inl ⟨by rfl, ?_⟩) hHeld ?_
      rotate_left 1
      · intro w hSw
        go_simp
        try with_reducible rfl
      show anyK _ _ _ _ _ _ _ _ (Act.put _ (some 19) _) _
      simp only [Act.put, List.setIfInBounds_toArray, List.set_cons_zero, List.set_cons_succ]
      refine anyK_take (i := 3) (v := ?_) rfl (by kernel_rfl) (by kernel_rfl) (by kernel_rfl) (N := 8) (by kernel_rfl) (by kernel_rfl) (by kernel_rfl) (fun _ _ _ h => h) (Or.inl ⟨by rfl, ?_⟩) hHeld ?_
      rotate_left 1
      · intro w hSw
        go_simp
        try with_reducible rfl
      show anyK _ _ _ _ _ _ _ _ (Act.put _ (some 20) _) _
      simp only [Act.put, List.setIfInBounds_toArray, List.set_cons_zero, List.set_cons_succ]
      refine anyK_take (i := 4) (v := ?_) rfl (by kernel_rfl) (by kernel_rfl) (by kernel_rfl) (N := 8) (by kernel_rfl) (by kernel_rfl) (by kernel_rfl) (fun _ _ _ h => h) (Or.inl ⟨by rfl, ?_⟩) hHeld ?_
      rotate_left 1
      · intro w hSw
        go_simp
        try with_reducible rfl
      show anyK _ _ _ _ _ _ _ _ (Act.put _ (some 21) _) _
      simp only [Act.put, List.setIfInBounds_toArray, List.set_cons_zero, List.set_cons_succ]
      refine anyK_take (i := 5) (v := ?_) rfl (by kernel_rfl) (by kernel_rfl) (by kernel_rfl) (N := 8) (by kernel_rfl) (by kernel_rfl) (by kernel_rfl) (fun _ _ _ h => h) (Or.inl ⟨by rfl, ?_⟩) hHeld ?_
      rotate_left 1
      · intro w hSw
        go_simp
        try with_reducible rfl
      show anyK _ _ _ _ _ _ _ _ (Act.put _ (some 22) _) _
      simp only [Act.put, List.setIfInBounds_toArray, List.set_cons_zero, List.set_cons_succ]
      refine anyK_take (i := 6) (v := ?_) rfl (by kernel_rfl) (by kernel_rfl) (by kernel_rfl) (N := 8) (by kernel_rfl) (by kernel_rfl) (by kernel_rfl) (fun _ _ _ h => h) (Or.inl ⟨by rfl, ?_⟩) hHeld ?_
      rotate_left 1
      · intro w hSw
        go_simp
        try with_reducible rfl
      show anyK _ _ _ _ _ _ _ _ (Act.put _ (some 23) _) _
      simp only [Act.put, List.setIfInBounds_toArray, List.set_cons_zero, List.set_cons_succ]
      clear hHeld
      refine anyK_one (i := 7) (by kernel_rfl) rfl (fun Kk hKk => ?_)
      go_simp
      (go_at_call 22; refine (HCp.out _ hE0d).mono ?_; rintro e w4 ⟨⟨a3, c3, a5, c5, rfl, O4⟩, hx4⟩; have he4 : Ext wr w4 := hE0d.trans hx4)
      go_wp2_with fail
      refine hKk.out _ _ (fun _ => ⟨cell_ext v0 he4, cell_ext v2 he4, cell_ext e0 he4, cell_ext e1 he4, cell_ext e2 he4, cell_ext e3 he4, cell_ext e4 he4, cell_ext e5 he4⟩) ?_
      clear hKk Kk
      simp only [List.setIfInBounds_toArray, List.set_cons_zero, List.set_cons_succ]
      refine anyK_one (i := 8) (by kernel_rfl) rfl (fun Kk hKk => ?_)
      go_wp2_with fail
      refine hKk.out _ _ (fun _ => ⟨cell_ext v0 (he4.trans (ext_al _ _)), cell_ext v2 (he4.trans (ext_al _ _)), cell_ext e0 (he4.trans (ext_al _ _)), cell_ext e1 (he4.trans (ext_al _ _)), cell_ext e2 (he4.trans (ext_al _ _)), cell_ext e3 (he4.trans (ext_al _ _)), cell_ext e4 (he4.trans (ext_al _ _)), cell_ext e5 (he4.trans (ext_al _ _))⟩) ?_
      clear hKk Kk
      simp only [List.setIfInBounds_toArray, List.set_cons_zero, List.set_cons_succ]
      obtain ⟨xs, hx0⟩ := Hown.out
      have hxx := hx0.ext he4
      have ho := hxx.own
      have ho5 := ho.alloc (.cells #[.int .i64 kd, .int .i64 kk', .slice a3 n1 c3, .int .i64 qq, .int .i64 bb, .slice a5 n2 c5] 43)
      obtain ⟨g, cap, w7, hrun, hown', hgrow', hcase, hglt⟩ := run_append_lies (P := Tryd.prog) (w4.alloc (.cells #[.int .i64 kd, .int .i64 kk', .slice a3 n1 c3, .int .i64 qq, .int .i64 bb, .slice a5 n2 c5] 43)) 22 22 base 43 i0 (.agg #[.int .i64 0, .int .i64 0, .slice none 0 0, .int .i64 0, .int .i64 0, .slice none 0 0]) 6 80 Tryd.underlying22 hi hz0 hz1 hz2 rfl (by decide) (.slice av i cv) (ops.take i).length xs ho5 ⟨w4.heap.size, 0, none⟩ 1 1 [.int .i64 kd, .int .i64 kk', .slice a3 n1 c3, .int .i64 qq, .int .i64 bb, .slice a5 n2 c5] rfl (new_op w4 _ _ _ _ _ _ _ _ _ _ _) (one_op _ _ _ _ _ _ _ _ _ _) (by omega) (by rw [List.length_take]; unfold maxLen; omega) (by rw [List.length_take]; omega) (by have := he4.size; simp; omega) _ rfl
      have hli : (ops.take i).length = i := by rw [List.length_take, Hl.out]; omega
      rw [hli] at hrun
      refine anyK_one (i := 9) (by kernel_rfl) rfl (fun Kk hKk => ?_)
      refine stepK_append rfl _ _ 22 rfl (.slice av i cv) (.slice (some ⟨w4.heap.size, 0, none⟩) 1 1) _ rfl rfl hrun ?_
      have hkind := PtKind ho5
      have hk7 : ∀ (b' : Nat) (cur : Array Value) (fr : Nat × Nat), (w4.alloc (.cells #[.int .i64 kd, .int .i64 kk', .slice a3 n1 c3, .int .i64 qq, .int .i64 bb, .slice a5 n2 c5] 43)).heap[b']? = some (.cells cur 3 fr) → w7.heap[b']? = (w4.alloc (.cells #[.int .i64 kd, .int .i64 kk', .slice a3 n1 c3, .int .i64 qq, .int .i64 bb, .slice a5 n2 c5] 43)).heap[b']? := fun b' cur fr hb' => by
        refine hgrow'.block b' (Array.getElem?_eq_some_iff.1 hb').1 (fun e => ?_)
        obtain ⟨_, cs, fr', e2⟩ := hkind b' e.symm
        rw [e2] at hb'
        cases hb'
      have O7 := (O4.ext (ext_al _ (.cells #[.int .i64 kd, .int .i64 kk', .slice a3 n1 c3, .int .i64 qq, .int .i64 bb, .slice a5 n2 c5] 43))).keep hk7
      have own7 := OpsX.snoc (g := ⟨kd, kk', ctl, qq, bb, cnd⟩) (hxx.ext (ext_al _ _)) hown' hk7 hx0.old (show base ≤ wr.heap.size from hbs) O7
      have bOut7 : CiB w7 (H + 2) qb bi av i cv := ⟨(hgrow'.block _ ((Hout.out.ext he4).ext (ext_al _ _)).lt (fun e => by have := (hkind _ e.symm).1; omega)).trans ((Hout.out.ext he4).ext (ext_al _ _)).row⟩
      have x2' := bOut7.x2; have fz2 := bOut7.f 2
      have hHeld : w7.cell? ⟨H + 2, 2, none⟩ = some (.slice av i cv) ∧ w7.cell? ⟨H, 2, none⟩ = some (.slice (some ⟨b, o, none⟩) n cp) ∧ w7.cell? ⟨b, o + i * 6, none⟩ = some (.int .i64 kd) ∧ w7.cell? ⟨b, o + i * 6 + 1, none⟩ = some (.int .i64 kk') ∧ w7.cell? ⟨b, o + i * 6 + 2, none⟩ = some (.slice a1 n1 c1) ∧ w7.cell? ⟨b, o + i * 6 + 3, none⟩ = some (.int .i64 qq) ∧ w7.cell? ⟨b, o + i * 6 + 4, none⟩ = some (.int .i64 bb) ∧ w7.cell? ⟨b, o + i * 6 + 5, none⟩ = some (.slice a2 n2 c2) := ⟨x2', (CiB_grown hgrow' hkind (HC.out.ext (he4.trans (ext_al _ _))) (by omega)).x2, cell_grown hgrow' hkind e0 ((he4.trans (ext_al _ _))) HbB.out, cell_grown hgrow' hkind e1 ((he4.trans (ext_al _ _))) HbB.out, cell_grown hgrow' hkind e2 ((he4.trans (ext_al _ _))) HbB.out, cell_grown hgrow' hkind e3 ((he4.trans (ext_al _ _))) HbB.out, cell_grown hgrow' hkind e4 ((he4.trans (ext_al _ _))) HbB.out, cell_grown hgrow' hkind e5 ((he4.trans (ext_al _ _))) HbB.out⟩
      refine hKk.out _ _ (fun _ => hHeld) ?_
      clear hKk Kk
      show anyK _ _ _ _ _ _ _ _ (Act.put _ (some 26) _) _
      simp only [Act.put, List.setIfInBounds_toArray, List.set_cons_zero, List.set_cons_succ]
      refine anyK_take (i := 10) (v := ?_) rfl (by kernel_rfl) (by kernel_rfl) (by kernel_rfl) (N := 8) (by kernel_rfl) (by kernel_rfl) (by kernel_rfl) (fun _ _ _ h => h) (Or.inl ⟨by rfl, ?_⟩) hHeld ?_
      rotate_left 1
      · intro w hSw
        go_simp
        try with_reducible rfl
      show anyK _ _ _ _ _ _ _ _ (Act.put _ (some 27) _) _
      simp only [Act.put, List.setIfInBounds_toArray, List.set_cons_zero, List.set_cons_succ]
      clear hHeld
      refine anyK_one (i := 11) (by kernel_rfl) rfl (fun Kk hKk => ?_)
      refine stepK_store rfl rfl _ _ rfl (H + 2) 2 (some ⟨g, 0, none⟩) (i + 1) cap (.slice av i cv) rfl rfl x2' fz2 ?_
      refine hKk.out _ _ (fun h => Bool.noConfusion (show true = false from h)) ?_
      clear hKk Kk
      simp only [List.setIfInBounds_toArray, List.set_cons_zero, List.set_cons_succ]
      refine anyK_done (by kernel_rfl) ?_ _
      have bOut8 := bOut7.set2 (some ⟨g, 0, none⟩) (i + 1) cap
      have hOo := only1 w7 (H + 2) 2 (.slice (some ⟨g, 0, none⟩) (i + 1) cap)
      have own8 : OpsN _ base _ _ := ⟨_, own7.only bOut7.row (by decide) hOo (by omega)⟩
      rw [hli] at own8
      clear hli
      have bC8 : CiB (w7.setCell ⟨H + 2, 2, none⟩ (.slice (some ⟨g, 0, none⟩) (i + 1) cap)) H qb bi (some ⟨b, o, none⟩) n cp := ⟨(hOo.block _ (by omega)).trans (CiB_grown hgrow' hkind (HC.out.ext (he4.trans (ext_al _ _))) (by omega)).row⟩
      have bR8 : CiB (w7.setCell ⟨H + 2, 2, none⟩ (.slice (some ⟨g, 0, none⟩) (i + 1) cap)) (H + 1) 0 0 none 0 0 := ⟨(hOo.block _ (by omega)).trans (CiB_grown hgrow' hkind (HR.out.ext (he4.trans (ext_al _ _))) (by omega)).row⟩
      have hE8 : Ext w (w7.setCell ⟨H + 2, 2, none⟩ (.slice (some ⟨g, 0, none⟩) (i + 1) cap)) := Below.setCell (grown_ext (HER.out.trans (he4.trans (ext_al _ _))) hgrow' (fun k hk => by have := (hkind k hk).1; have := HhH.out; omega)) (p := ⟨H + 2, 2, none⟩) (show w.heap.size ≤ H + 2 by have := HhH.out; omega) _
      have hops8 := Hops0.out.ext hE8
      have HbC8 := Lib.hid bC8; have HbR8 := Lib.hid bR8; have HbO8 := Lib.hid bOut8; have Hown8 := Lib.hid own8; have HE8 := Lib.hid hE8; have Hops8 := Lib.hid hops8
      have Hs8 : Hid (base ≤ w7.heap.size) := Nat.le_trans (Nat.le_trans hbs (he4.trans (ext_al _ _)).size) hgrow'.size
      clear bC8 bR8 bOut8 own8 hE8 hops8 own7 bOut7 O7 hk7 hkind hgrow' hown' hrun ho5 ho hxx hx0 O4 hx4 he4 hE0d v0 v2 e0 e1 e2 e3 e4 e5 x2' fz2
      go_wp2_with fail
      go_roundg (n - (i + 1))
      case measure => omega
      case rel => exact ⟨i + 1, some ⟨g, 0, none⟩, cap, by go_num, by omega, rfl, HbC8.out, HbR8.out, HbO8.out, Hops8.out, by rw [Hst.out]; exact Hown8.out, HE8.out, by simpa using Hs8.out⟩

end Go.Proofs.YtapolidgocfbjaaDoor
namespace Go.Proofs.YtapolidgocfbjaaDoor
open Go.RowKit

/-- The six cells of an operation. -/
def opF (g : Gop) (a1 : Option Addr) (n1 c1 : Nat) (a2 : Option Addr) (n2 c2 : Nat) : Nat → Value
  | 0 => .int .i64 g.kind
  | 1 => .int .i64 g.k
  | 2 => .slice a1 n1 c1
  | 3 => .int .i64 g.q
  | 4 => .int .i64 g.bit
  | _ => .slice a2 n2 c2
def putAt (W : World) (g p : Nat) (f : Nat → Value) : World :=
  (((((W.setCell ⟨g, p, none⟩ (f 0)).setCell ⟨g, p + 1, none⟩ (f 1)).setCell ⟨g, p + 2, none⟩ (f 2)).setCell ⟨g, p + 3, none⟩ (f 3)).setCell ⟨g, p + 4, none⟩ (f 4)).setCell ⟨g, p + 5, none⟩ (f 5)
theorem putAt_row {W : World} {g p : Nat} {cs : Array Value} {t : TypeId} (f : Nat → Value) (h : W.heap[g]? = some (.cells cs t (0, 0))) : (putAt W g p f).heap[g]? = some (.cells (set6 cs p f) t (0, 0)) :=
  row_put (row_put (row_put (row_put (row_put (row_put h rfl) rfl) rfl) rfl) rfl) rfl
theorem putAt_only (W : World) (g p : Nat) (f : Nat → Value) : Only g W (putAt W g p f) := ((((((Only.refl _ _).setCell _ _).setCell _ _).setCell _ _).setCell _ _).setCell _ _).setCell _ _
theorem putAt_size (W : World) (g p : Nat) (f : Nat → Value) : (putAt W g p f).heap.size = W.heap.size := by simp [putAt]
/-- All but the row's own block is as it was. -/
structure Rvs (v : Value) (w w' : World) : Prop where
  os : w'.os = w.os
  tape : w'.tape = w.tape
  output : w'.output = w.output
  size : w'.heap.size = w.heap.size
  block : ∀ k, v.ownBlock ≠ some k → w'.heap[k]? = w.heap[k]?
theorem Rvs.refl (v : Value) (w : World) : Rvs v w w := ⟨rfl, rfl, rfl, rfl, fun _ _ => rfl⟩
theorem Rvs.of_only {g n c : Nat} {w w' : World} (h : Only g w w') : Rvs (.slice (some ⟨g, 0, none⟩) n c) w w' := ⟨h.os, h.tape, h.output, h.size, fun k hk => h.block k (fun e => hk (by rw [e]; rfl))⟩
theorem Rvs.ext {v : Value} {w0 w w' : World} (h : Rvs v w w') (k : Ext w0 w) (hv : ∀ i, v.ownBlock = some i → w0.heap.size ≤ i) : Ext w0 w' :=
  Below.trans k ⟨h.os, h.tape, h.output, Nat.le_of_eq h.size.symm, fun i hi => h.block i (fun e => by have := hv i e; omega)⟩
theorem CiB.rvs {v : Value} {w w' : World} {g : Nat} {qb bi : Int} {ao : Option Addr} {n cp : Nat} (h : CiB w g qb bi ao n cp) (k : Rvs v w w') (hv : v.ownBlock ≠ some g) : CiB w' g qb bi ao n cp := ⟨(k.block g hv).trans h.row⟩
theorem FtB.rvs {v : Value} {w w' : World} {g : Nat} {x y : Int} (h : FtB w g x y) (k : Rvs v w w') (hv : v.ownBlock ≠ some g) : FtB w' g x y := ⟨(k.block g hv).trans h.row⟩
theorem Only.drewn {g : Nat} {w w' : World} (h : Only g w w') : Only g w w'.drew := ⟨h.os, h.tape, h.output, h.size, h.block⟩
end Go.Proofs.YtapolidgocfbjaaDoor
namespace Go.Proofs.YtapolidgocfbjaaDoor
open Go.RowKit

theorem FtB.put {W : World} {g : Nat} {u v : Int} (h : FtB W g u v) (a b : Int) : FtB ((W.setCell ⟨g, 0, none⟩ (.int .i64 a)).setCell ⟨g, 1, none⟩ (.int .i64 b)) g a b := ⟨row_put (row_put h.row rfl) rfl⟩

/-- A circuit into one variable, a fault into another. -/
def putCF (W : World) (g gf : Nat) (q b : Int) (a : Option Addr) (n c : Nat) (u v : Int) : World :=
  ((((W.setCell ⟨g, 0, none⟩ (.int .i64 q)).setCell ⟨g, 1, none⟩ (.int .i64 b)).setCell ⟨g, 2, none⟩ (.slice a n c)).setCell ⟨gf, 0, none⟩ (.int .i64 u)).setCell ⟨gf, 1, none⟩ (.int .i64 v)
theorem putCF_C {W : World} {g gf : Nat} {q0 b0 : Int} {a0 : Option Addr} {n0 c0 : Nat} (h : CiB W g q0 b0 a0 n0 c0) (hne : g ≠ gf) (q b : Int) (a : Option Addr) (n c : Nat) (u v : Int) : CiB (putCF W g gf q b a n c u v) g q b a n c :=
  ⟨row_far (row_far (((h.set0 q).set1 b).set2 a n c).row (by omega)) (by omega)⟩
theorem putCF_F {W : World} {g gf : Nat} {u0 v0 : Int} (h : FtB W gf u0 v0) (hne : g ≠ gf) (q b : Int) (a : Option Addr) (n c : Nat) (u v : Int) : FtB (putCF W g gf q b a n c u v) gf u v :=
  ⟨row_put (row_put (row_far (row_far (row_far h.row (by omega)) (by omega)) (by omega)) rfl) rfl⟩
theorem putCF_ext {w W : World} {g gf : Nat} (h : Ext w W) (hg : w.heap.size ≤ g) (hf : w.heap.size ≤ gf) (q b : Int) (a : Option Addr) (n c : Nat) (u v : Int) : Ext w (putCF W g gf q b a n c u v) :=
  cput (o := 1) (cput (o := 0) (cput (o := 2) (cput (o := 1) (cput (o := 0) h hg _) hg _) hg _) hf _) hf _
theorem CiB.drew {W : World} {g : Nat} {qb bi : Int} {ao : Option Addr} {n cp : Nat} (h : CiB W g qb bi ao n cp) : CiB W.drew g qb bi ao n cp := ⟨h.row⟩
theorem FtB.drew {W : World} {g : Nat} {u v : Int} (h : FtB W g u v) : FtB W.drew g u v := ⟨h.row⟩

end Go.Proofs.YtapolidgocfbjaaDoor
namespace Go.Proofs.YtapolidgocfbjaaDoor
open Go.RowKit

def opp (k : Int) : Int := (16 - k).tmod 16
/-- An operation undone. -/
def undoO (g : Gop) : Gop := { g with k := opp g.k }
/-- Operations undone. -/
def invO (ops : List Gop) : List Gop := ops.reverse.map undoO
/-- The first i of them undone, in place. -/
def invF (ops : List Gop) (i : Nat) : List Gop := (ops.take i).map undoO ++ ops.drop i
theorem invF_len (ops : List Gop) (i : Nat) : (invF ops i).length = ops.length := by
  unfold invF
  simp only [List.length_append, List.length_map, List.length_take, List.length_drop]
  omega
theorem invF_get {ops : List Gop} {i t : Nat} (ht : t < ops.length) : (invF ops i)[t]? = if t < i then ops[t]?.map undoO else ops[t]? := by
  unfold invF
  by_cases h : t < i
  · rw [if_pos h, List.getElem?_append_left (by rw [List.length_map, List.length_take]; omega), List.getElem?_map, List.getElem?_take, if_pos h]
  · rw [if_neg h, List.getElem?_append_right (by rw [List.length_map, List.length_take]; omega), List.length_map, List.length_take, List.getElem?_drop]
    congr 1; omega
theorem invF_zero (ops : List Gop) : invF ops 0 = ops := by simp [invF]
theorem invF_all {ops : List Gop} {i : Nat} (h : ops.length ≤ i) : invF ops i = ops.map undoO := by
  unfold invF
  rw [List.take_of_length_le h, List.drop_eq_nil_of_le h, List.append_nil]
theorem pur_zero {c : Gci} (h : (pur c).1 = 0) : (chk c).1 = 0 ∧ pur c = (0, 0) := by
  have key : ∀ (l : List Gop) (i : Nat), (purF i l).1 = 0 → purF i l = (0, 0) := by
    intro l
    induction l with
    | nil => intro i _; rfl
    | cons o r ih =>
      intro i h
      rw [purF] at h ⊢
      by_cases hc : 5 ≤ o.kind ∨ 0 < o.cnd.length
      · rw [if_pos hc] at h; exact absurd h (show ¬ (15 : Int) = 0 by decide)
      · rw [if_neg hc] at h ⊢; exact ih _ h
  unfold pur at h ⊢
  by_cases hc : (chk c).1 ≠ 0
  · rw [if_pos hc] at h; exact absurd h hc
  · rw [if_neg hc] at h ⊢; exact ⟨by omega, key _ _ h⟩

theorem opposite_any (k : Int) (w : World) (h0 : 0 ≤ k) (h1 : k ≤ 16) : Calls Tryd.prog 26 #[.int .i64 k] w fun e w' => e = .returned (.int .i64 (opp k)) ∧ w' = w := by
  obtain ⟨r, hr⟩ : ∃ r, opp k = r := ⟨_, rfl⟩
  rw [hr]
  unfold opp at hr
  obtain ⟨d, hd⟩ : ∃ d, 16 - k = d := ⟨_, rfl⟩
  rw [hd] at hr
  have w1 : IntKind.i64.wrap (16 - k) = d := by rw [IntKind.wrap_i64]; omega
  have hdr : d.tmod 16 = r := hr
  have w2 : IntKind.i64.wrap (d.tmod 16) = r := by
    rw [hdr, IntKind.wrap_i64]
    have : 0 ≤ r ∧ r < 16 := by rw [← hr]; exact ⟨Int.tmod_nonneg _ (by omega), Int.tmod_lt_of_pos _ (by omega)⟩
    omega
  clear hr hd
  go_enter Tryd.func26, Tryd.ntmps26
  go_wp2_with fail
  go_ret
  exact ⟨rfl, rfl⟩

theorem stepK_storeN {ops : Array Oper} {o : Oper} {a : Act} {K : Act → World → Prop} {Q : Exit → Act → World → Prop} {E : Prop} {w : World} (hgd : o.guard = none) (hd : o.dst = none) (p x : Operand)
    (ho : o.op = .store 3 p x) (b off : Nat) (z : Int) (u : Value) (hp : a.eval p = .pointer (some ⟨b, off, none⟩)) (hx : a.eval x = .int .i64 z)
    (hcell : w.cell? ⟨b, off, none⟩ = some u) (hfz : w.frozen? ⟨b, off, none⟩ = false) (h : K a (w.setCell ⟨b, off, none⟩ (.int .i64 z))) :
    if Region.wanted o (yielded ops a.tmps) = true then Oper.wp Tryd.prog o a w K Q else E := by
  have hw : Region.wanted o (yielded ops a.tmps) = true := by simp [Region.wanted, hgd]
  rw [if_pos hw]
  obtain ⟨od, oo, ot, opp, oa, og⟩ := o
  simp only at ho hd
  subst ho hd
  have HH := Lib.hid h
  clear h
  unfold Oper.wp execOp
  simp only [hp, hx]
  go_simp
  exact HH.out

end Go.Proofs.YtapolidgocfbjaaDoor
namespace Go.Proofs.YtapolidgocfbjaaDoor
open Go.RowKit

theorem opk_range {g : Gop} {n b : Int} (h : opCode g n b = 0) : 0 ≤ g.k ∧ g.k ≤ 15 := by
  unfold opCode at h
  split at h
  · omega
  · split at h
    · omega
    · next hk =>
      unfold fitsB at hk
      split at hk
      · unfold below at hk
        simp at hk
        omega
      · simp at hk
        omega

end Go.Proofs.YtapolidgocfbjaaDoor
namespace Go.Proofs.YtapolidgocfbjaaDoor
open Go.RowKit

set_option maxHeartbeats 4000000 in
set_option maxRecDepth 100000 in
theorem Inverse_no (c : Gci) (ao : Option Addr) (n cp : Nat) (w : World) (h : OpsAt w ao n c.ops) (hn : n ≤ cp) (hcp : cp ≤ 9223372036854775807) (hS : Shp w) (hc : (pur c).1 ≠ 0) :
    Calls Tryd.prog 7 #[.agg #[.int .i64 c.qubits, .int .i64 c.bits, .slice ao n cp]] w fun e w' => e = .returned (.tuple #[.agg #[.int .i64 0, .int .i64 0, .slice none 0 0], .agg #[.int .i64 (pur c).1, .int .i64 (pur c).2]]) ∧ Ext w w' := by
  obtain ⟨qb, bi, ops⟩ := c
  obtain ⟨F, hF⟩ : ∃ F, pur ⟨qb, bi, ops⟩ = F := ⟨_, rfl⟩
  obtain ⟨u, v⟩ := F
  rw [hF] at hc ⊢
  simp only at hc ⊢
  obtain ⟨H, hH⟩ : ∃ H, w.heap.size = H := ⟨_, rfl⟩
  obtain ⟨A1, hA1⟩ : ∃ A1, w.alloc (.cells #[.int .i64 qb, .int .i64 bi, .slice ao n cp] 24) = A1 := ⟨_, rfl⟩
  obtain ⟨A2, hA2⟩ : ∃ A2, A1.alloc (.cells #[.int .i64 0, .int .i64 0, .slice none 0 0] 24) = A2 := ⟨_, rfl⟩
  obtain ⟨A3, hA3⟩ : ∃ A3, A2.alloc (.cells #[.int .i64 0, .int .i64 0] 28) = A3 := ⟨_, rfl⟩
  have s1 : A1.heap.size = H + 1 := by rw [← hA1, ← hH]; simp
  have s2 : A2.heap.size = H + 2 := by rw [← hA2]; simp; omega
  have x1 : Ext w A1 := by rw [← hA1]; exact ext_al _ _
  have x2 : Ext A1 A2 := by rw [← hA2]; exact ext_al _ _
  have x3 : Ext A2 A3 := by rw [← hA3]; exact ext_al _ _
  have bC : CiB A3 H qb bi ao n cp := by
    have : CiB A1 H qb bi ao n cp := by rw [← hA1, ← hH]; exact ⟨heap_alloc_new w _⟩
    exact (this.ext x2).ext x3
  have bR : CiB A3 (H + 1) 0 0 none 0 0 := by
    have : CiB A2 (H + 1) 0 0 none 0 0 := by rw [← hA2, ← s1]; exact ⟨heap_alloc_new A1 _⟩
    exact this.ext x3
  have bF : FtB A3 (H + 2) 0 0 := by rw [← hA3, ← s2]; exact ⟨heap_alloc_new A2 _⟩
  have E0 : Ext w A3 := (x1.trans x2).trans x3
  have hA : ((w.alloc (.cells #[.int .i64 qb, .int .i64 bi, .slice ao n cp] 24)).alloc (.cells #[.int .i64 0, .int .i64 0, .slice none 0 0] 24)).alloc (.cells #[.int .i64 0, .int .i64 0] 28) = A3 := by rw [hA1, hA2, hA3]
  have HK := Lib.hid (Pure_any ⟨qb, bi, ops⟩ ao n cp A3 (h.ext E0) hn hcp (hS.ext E0))
  rw [hF] at HK
  subst hH
  simp only at HK ⊢
  have m0 := bC.x0; have m1 := bC.x1; have m2 := bC.x2
  rw [← hA] at m0 m1 m2
  have HA := Lib.hid hA; have HE0 := Lib.hid E0; have HR := Lib.hid bR; have HFt := Lib.hid bF
  have nu := nt hc; have nb := bf hc
  clear h hS hF E0 bC bR bF x1 x2 x3 s1 s2 hA1 hA2 hA3 hA
  go_enter Tryd.func7, Tryd.ntmps7
  go_wp2_with fail
  rw [HA.out]
  refine HK.out.mono ?_
  rintro e w1 ⟨rfl, hx1⟩
  have Ef := ext_al w1 (.cells #[.int .i64 u, .int .i64 v] 28)
  have bf1 : FtB (w1.alloc (.cells #[.int .i64 u, .int .i64 v] 28)) w1.heap.size u v := ⟨heap_alloc_new w1 _⟩
  have q0 := bf1.x0; have q1 := bf1.x1
  have hX := hx1.trans Ef
  have bR1 := HR.out.ext hX; have bF1 := HFt.out.ext hX
  have HEz := Lib.hid (HE0.out.trans hX)
  have hsz1 := hX.size; have hA3 := HFt.out.lt
  have r0 := bR1.x0; have r1 := bR1.x1; have r2 := bR1.x2; have g0 := bR1.f 0; have g1 := bR1.f 1; have g2 := bR1.f 2
  have f0 := bF1.x0; have f1 := bF1.x1; have k0 := bF1.f 0; have k1 := bF1.f 1
  have HbR1 := Lib.hid bR1; have HbF1 := Lib.hid bF1
  have hgt : w.heap.size + 1 + 1 < w1.heap.size := Nat.lt_of_lt_of_le hA3 hx1.size
  have hgt1 : w1.heap.size ≠ w.heap.size + 1 := by omega
  have hgt2 : w1.heap.size ≠ w.heap.size + 1 + 1 := by omega
  have zC := (putCF_C HbR1.out (show w.heap.size + 1 ≠ w.heap.size + 1 + 1 by omega) 0 0 none 0 0 u v).drew
  have zF := (putCF_F HbF1.out (show w.heap.size + 1 ≠ w.heap.size + 1 + 1 by omega) 0 0 none 0 0 u v).drew
  have zE : Ext w (putCF (w1.alloc (.cells #[.int .i64 u, .int .i64 v] 28)) (w.heap.size + 1) (w.heap.size + 1 + 1) 0 0 none 0 0 u v).drew := Below.drew (putCF_ext HEz.out (by omega) (by omega) _ _ _ _ _ _ _)
  obtain ⟨Wz, hWz⟩ : ∃ Wz, putCF (w1.alloc (.cells #[.int .i64 u, .int .i64 v] 28)) (w.heap.size + 1) (w.heap.size + 1 + 1) 0 0 none 0 0 u v = Wz := ⟨_, rfl⟩
  rw [hWz] at zC zF zE
  unfold putCF at hWz
  have HWz := Lib.hid hWz; have HzE := Lib.hid zE
  have z0 := zC.x0; have z1 := zC.x1; have z2 := zC.x2; have z3 := zF.x0; have z4 := zF.x1
  clear m0 m1 m2 hx1 Ef bf1 HK hX bR1 bF1 hWz zE zC zF
  clear hsz1 hA3 hgt
  go_upto_region 3 with fail
  go_region
  go_wp2_with fail
  rw [HWz.out]
  exact bodyPost_ret (v := .tuple #[.agg #[.int .i64 0, .int .i64 0, .slice none 0 0], .agg #[.int .i64 u, .int .i64 v]]) (by simp [results, Tryd.results7, go_sem, z0, z1, z2, z3, z4]) rfl ⟨rfl, HzE.out⟩

end Go.Proofs.YtapolidgocfbjaaDoor
namespace Go.Proofs.YtapolidgocfbjaaDoor
open Go.RowKit

theorem opp_range {k : Int} (h : 0 ≤ k ∧ k ≤ 15) : 0 ≤ opp k ∧ opp k ≤ 15 := by
  unfold opp
  have h1 := Int.tmod_nonneg 16 (show 0 ≤ 16 - k by omega)
  have h2 := Int.tmod_lt_of_pos (16 - k) (show (0 : Int) < 16 by omega)
  omega
theorem opp_eq {k : Int} (h : 0 ≤ k ∧ k ≤ 15) : opp k = if k = 0 then 0 else 16 - k := by
  unfold opp
  rw [Int.tmod_eq_emod_of_nonneg (by omega)]
  split <;> omega
end Go.Proofs.YtapolidgocfbjaaDoor
