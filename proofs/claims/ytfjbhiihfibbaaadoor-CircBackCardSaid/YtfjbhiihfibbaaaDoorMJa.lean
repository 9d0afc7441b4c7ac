/-
  Copies that the program makes: of an operation, of operations.
-/
import Derived.Test.YtfjbhiihfibbaaaDoorMHd
import Derived.Test.YtfjbhiihfibbaaaDoorMCi
import Derived.Test.YtfjbhiihfibbaaaDoorMDk

namespace Go.Proofs.YtfjbhiihfibbaaaDoor
open Go.RowKit

set_option maxHeartbeats 4000000 in
set_option maxRecDepth 100000 in
theorem ccopyOp_any (o : Gop) (a1 : Option Addr) (n1 c1 : Nat) (a2 : Option Addr) (n2 c2 : Nat) (w : World) (h : OpL w o a1 n1 c1 a2 n2 c2) (hb1 : n1 * 8 ≤ 140737488355328) (hb2 : n2 * 8 ≤ 140737488355328) :
    Calls Tryd.prog 67 #[.agg #[.int .i64 o.kind, .int .i64 o.k, .slice a1 n1 c1, .int .i64 o.q, .int .i64 o.bit, .slice a2 n2 c2]] w fun e w' => (∃ (a1' : Option Addr) (c1' : Nat) (a2' : Option Addr) (c2' : Nat), e = .returned (.agg #[.int .i64 o.kind, .int .i64 o.k, .slice a1' n1 c1', .int .i64 o.q, .int .i64 o.bit, .slice a2' n2 c2']) ∧ OpO w' o a1' n1 c1' a2' n2 c2') ∧ Ext w w' := by
  obtain ⟨kd, k, ctl, q, bt, cnd⟩ := o
  have E0 := (ext_al w (.cells #[.int .i64 kd, .int .i64 k, .slice a1 n1 c1, .int .i64 q, .int .i64 bt, .slice a2 n2 c2] 58)).trans (ext_al _ (.cells #[.int .i64 0, .int .i64 0, .slice none 0 0, .int .i64 0, .int .i64 0, .slice none 0 0] 58))
  have bx := (opbx_new w kd k a1 n1 c1 q bt a2 n2 c2).ext (ext_al _ (.cells #[.int .i64 0, .int .i64 0, .slice none 0 0, .int .i64 0, .int .i64 0, .slice none 0 0] 58))
  have br := opbx_new (w.alloc (.cells #[.int .i64 kd, .int .i64 k, .slice a1 n1 c1, .int .i64 q, .int .i64 bt, .slice a2 n2 c2] 58)) 0 0 none 0 0 0 0 none 0 0
  rw [show (w.alloc (.cells #[.int .i64 kd, .int .i64 k, .slice a1 n1 c1, .int .i64 q, .int .i64 bt, .slice a2 n2 c2] 58)).heap.size = w.heap.size + 1 from by simp] at br
  have HE0 := Lib.hid E0; have HL := Lib.hid (h.ext E0); have Hbx := Lib.hid bx; have Hbr := Lib.hid br
  simp only
  clear h E0 bx br
  go_enter Tryd.func67, Tryd.ntmps67
  go_upto_region 1 with fail
  generalize (w.alloc (.cells #[.int .i64 kd, .int .i64 k, .slice a1 n1 c1, .int .i64 q, .int .i64 bt, .slice a2 n2 c2] 58)).alloc (.cells #[.int .i64 0, .int .i64 0, .slice none 0 0, .int .i64 0, .int .i64 0, .slice none 0 0] 58) = W0 at *
  have hd0 : Ext W0 W0.drew := Below.drew (Ext.refl _)
  have HC1 := Lib.hid (fun wx (hx : Ext W0 wx) => copyList_any a1 n1 c1 ctl wx (HL.out.i1.ext hx) hb1)
  have HC2 := Lib.hid (fun wx (hx : Ext W0 wx) => copyList_any a2 n2 c2 cnd wx (HL.out.i2.ext hx) hb2)
  have v2 := Hbx.out.x2; have v5 := Hbx.out.x5
  refine wp_region_K 7 (fun w' => w'.cell? ⟨w.heap.size, 2, none⟩ = some (.slice a1 n1 c1) ∧ w'.cell? ⟨w.heap.size, 5, none⟩ = some (.slice a2 n2 c2)) (by kernel_rfl) ?_
  show anyK _ _ _ _ _ _ 10 #[false, false, false, false, false, false, false, false, false, false] _ _
  have hHeld : W0.drew.cell? ⟨w.heap.size, 2, none⟩ = some (.slice a1 n1 c1) ∧ W0.drew.cell? ⟨w.heap.size, 5, none⟩ = some (.slice a2 n2 c2) := ⟨v2, v5⟩
  refine anyK_take (i := 0) (v := ?_) rfl (by kernel_rfl) (by kernel_rfl) (by kernel_rfl) (N := 10) (by kernel_rfl) (by kernel_rfl) (by kernel_rfl) (fun _ _ _ h => h) (Or.inl ⟨by rfl, ?_⟩) hHeld ?_
  rotate_left 1
  · intro w hSw
    go_simp
    try with_reducible rfl
  show anyK _ _ _ _ _ _ _ _ (Act.put _ (some 3) _) _
  simp only [Act.put, List.setIfInBounds_toArray, List.set_cons_zero, List.set_cons_succ]
  refine anyK_take (i := 1) (v := ?_) rfl (by kernel_rfl) (by kernel_rfl) (by kernel_rfl) (N := 10) (by kernel_rfl) (by kernel_rfl) (by kernel_rfl) (fun _ _ _ h => h) (Or.inl ⟨by rfl, ?_⟩) hHeld ?_
  rotate_left 1
  · intro w hSw
    go_simp
    try with_reducible rfl
  show anyK _ _ _ _ _ _ _ _ (Act.put _ (some 4) _) _
  simp only [Act.put, List.setIfInBounds_toArray, List.set_cons_zero, List.set_cons_succ]
  refine anyK_take (i := 3) (v := ?_) rfl (by kernel_rfl) (by kernel_rfl) (by kernel_rfl) (N := 10) (by kernel_rfl) (by kernel_rfl) (by kernel_rfl) (fun _ _ _ h => h) (Or.inl ⟨by rfl, ?_⟩) hHeld ?_
  rotate_left 1
  · intro w hSw
    go_simp
    try with_reducible rfl
  show anyK _ _ _ _ _ _ _ _ (Act.put _ (some 6) _) _
  simp only [Act.put, List.setIfInBounds_toArray, List.set_cons_zero, List.set_cons_succ]
  refine anyK_take (i := 4) (v := ?_) rfl (by kernel_rfl) (by kernel_rfl) (by kernel_rfl) (N := 10) (by kernel_rfl) (by kernel_rfl) (by kernel_rfl) (fun _ _ _ h => h) (Or.inl ⟨by rfl, ?_⟩) hHeld ?_
  rotate_left 1
  · intro w hSw
    go_simp
    try with_reducible rfl
  show anyK _ _ _ _ _ _ _ _ (Act.put _ (some 7) _) _
  simp only [Act.put, List.setIfInBounds_toArray, List.set_cons_zero, List.set_cons_succ]
  clear hHeld
  refine anyK_one (i := 2) (by kernel_rfl) rfl (fun Kk hKk => ?_)
  go_simp
  (go_at_call 82; refine (HC1.out _ hd0).mono ?_; rintro e w4 ⟨v', rfl, hown1, hx4⟩)
  obtain ⟨a3, c3, rfl, l3, m3, I3, T3⟩ := ints_of_own hown1
  have hx4' := hd0.trans hx4
  have b4 := Hbx.out.ext hx4'
  have x2 := b4.x2; have x5 := b4.x5
  go_wp2_with fail
  refine hKk.out _ _ (fun _ => ⟨x2, x5⟩) ?_
  clear hKk Kk
  simp only [List.setIfInBounds_toArray, List.set_cons_zero, List.set_cons_succ]
  have hHeld : w4.cell? ⟨w.heap.size, 2, none⟩ = some (.slice a1 n1 c1) ∧ w4.cell? ⟨w.heap.size, 5, none⟩ = some (.slice a2 n2 c2) := ⟨x2, x5⟩
  refine anyK_take (i := 6) (v := ?_) rfl (by kernel_rfl) (by kernel_rfl) (by kernel_rfl) (N := 10) (by kernel_rfl) (by kernel_rfl) (by kernel_rfl) (fun _ _ _ h => h) (Or.inl ⟨by rfl, ?_⟩) hHeld ?_
  rotate_left 1
  · intro w hSw
    go_simp
    try with_reducible rfl
  show anyK _ _ _ _ _ _ _ _ (Act.put _ (some 9) _) _
  simp only [Act.put, List.setIfInBounds_toArray, List.set_cons_zero, List.set_cons_succ]
  clear hHeld
  refine anyK_one (i := 5) (by kernel_rfl) rfl (fun Kk hKk => ?_)
  go_simp
  (have _ := hx4; go_at_call 82; refine (HC2.out _ hx4').mono ?_; rintro e w5 ⟨v'', rfl, hown2, hx5⟩)
  obtain ⟨a5, c5, rfl, l5, m5, I5, T5⟩ := ints_of_own hown2
  have hx5' := hx4'.trans hx5
  have b5 := Hbx.out.ext hx5'
  have y2 := b5.x2; have y5 := b5.x5; have z2 := b5.f 2
  go_wp2_with fail
  refine hKk.out _ _ (fun _ => ⟨y2, y5⟩) ?_
  clear hKk Kk
  simp only [List.setIfInBounds_toArray, List.set_cons_zero, List.set_cons_succ]
  refine anyK_one (i := 7) (by kernel_rfl) rfl (fun Kk hKk => ?_)
  refine stepK_storeI rfl rfl _ _ rfl w.heap.size 2 a3 n1 c3 (.slice a1 n1 c1) rfl rfl y2 z2 ?_
  refine hKk.out _ _ (fun h => Bool.noConfusion (show true = false from h)) ?_
  clear hKk Kk
  simp only [List.setIfInBounds_toArray, List.set_cons_zero, List.set_cons_succ]
  have b6 := b5.set2 a3 n1 c3
  have hk1 := only_ints b5.row (by decide) (only1 w5 w.heap.size 2 (.slice a3 n1 c3))
  have I6 := (I3.ext hx5).keep (T3.ext hx5) (by simp) hk1
  have T6 := (T3.ext hx5).keep hk1
  have I7 := I5.keep T5 (by simp) hk1
  have T7 := T5.keep hk1
  have HE6 := Lib.hid (p := Ext w _) (Below.setCell (HE0.out.trans hx5') (p := ⟨w.heap.size, 2, none⟩) (Nat.le_refl _) (.slice a3 n1 c3))
  have br6 : OpBx (w5.setCell ⟨w.heap.size, 2, none⟩ (.slice a3 n1 c3)) (w.heap.size + 1) 0 0 none 0 0 0 0 none 0 0 := ⟨((only1 w5 w.heap.size 2 (.slice a3 n1 c3)).block _ (by omega)).trans (Hbr.out.ext hx5').row⟩
  have u5 := b6.x5; have s5 := b6.f 5
  clear b4 b5 x2 x5 y2 y5 z2 I3 T3 I5 T5 hk1 hx4 hx5 hx4' hx5' hown1 hown2 v2 v5 hd0
  generalize w5.setCell ⟨w.heap.size, 2, none⟩ (.slice a3 n1 c3) = W6 at *
  refine anyK_one (i := 8) (by kernel_rfl) rfl (fun Kk hKk => ?_)
  go_wp2_with fail
  refine hKk.out _ _ (fun h => Bool.noConfusion (show true = false from h)) ?_
  clear hKk Kk
  simp only [List.setIfInBounds_toArray, List.set_cons_zero, List.set_cons_succ]
  refine anyK_one (i := 9) (by kernel_rfl) rfl (fun Kk hKk => ?_)
  refine stepK_storeI rfl rfl _ _ rfl w.heap.size 5 a5 n2 c5 (.slice a2 n2 c2) rfl rfl u5 s5 ?_
  refine hKk.out _ _ (fun h => Bool.noConfusion (show true = false from h)) ?_
  clear hKk Kk
  simp only [List.setIfInBounds_toArray, List.set_cons_zero, List.set_cons_succ]
  refine anyK_done (by kernel_rfl) ?_ _
  have b8 := b6.set5 a5 n2 c5
  have hk3 := only_ints b6.row (by decide) (only1 W6 w.heap.size 5 (.slice a5 n2 c5))
  have I8 := I6.keep T6 (by simp) hk3
  have T8 := T6.keep hk3
  have I9 := I7.keep T7 (by simp) hk3
  have T9 := T7.keep hk3
  have HE8 := Lib.hid (p := Ext w _) (Below.setCell HE6.out (p := ⟨w.heap.size, 5, none⟩) (Nat.le_refl _) (.slice a5 n2 c5))
  have br8 : OpBx (W6.setCell ⟨w.heap.size, 5, none⟩ (.slice a5 n2 c5)) (w.heap.size + 1) 0 0 none 0 0 0 0 none 0 0 := ⟨((only1 W6 w.heap.size 5 (.slice a5 n2 c5)).block _ (by omega)).trans br6.row⟩
  clear b6 br6 I6 T6 I7 T7 hk3 u5 s5 HE6
  generalize W6.setCell ⟨w.heap.size, 5, none⟩ (.slice a5 n2 c5) = W8 at *
  have hk4 := only_ints br8.row (by decide) (onl6 W8 (w.heap.size + 1) (.int .i64 kd) (.int .i64 k) (.slice a3 n1 c3) (.int .i64 q) (.int .i64 bt) (.slice a5 n2 c5))
  have HI8 := Lib.hid (I8.keep T8 (by simp) hk4); have HT8 := Lib.hid (T8.keep hk4); have HI9 := Lib.hid (I9.keep T9 (by simp) hk4); have HT9 := Lib.hid (T9.keep hk4)
  have p0 := b8.x0; have p1 := b8.x1; have p2 := b8.x2; have p3 := b8.x3; have p4 := b8.x4; have p5 := b8.x5
  have r0 := br8.x0; have r1 := br8.x1; have r2 := br8.x2; have r3 := br8.x3; have r4 := br8.x4; have r5 := br8.x5
  have g0 := br8.f 0; have g1 := br8.f 1; have g2 := br8.f 2; have g3 := br8.f 3; have g4 := br8.f 4; have g5 := br8.f 5
  clear b8 br8 I8 T8 I9 T9 hk4
  go_wp2_with fail
  exact bodyPost_ret (v := .agg #[.int .i64 kd, .int .i64 k, .slice a3 n1 c3, .int .i64 q, .int .i64 bt, .slice a5 n2 c5]) (by simp [results, Tryd.results67, go_sem, r0, r1, r2, r3, r4, r5]) rfl ⟨⟨a3, c3, a5, c5, rfl, ⟨⟨HI8.out, l3, by unfold maxLen at m3; omega, HI9.out, l5, by unfold maxLen at m5; omega⟩, HT8.out, HT9.out⟩⟩, put6 HE8.out (by omega) _ _ _ _ _ _⟩

end Go.Proofs.YtfjbhiihfibbaaaDoor

/-
  The program's circuit of copies.
-/
namespace Go.Proofs.YtfjbhiihfibbaaaDoor
open Go.RowKit

set_option maxHeartbeats 8000000 in
set_option maxRecDepth 100000 in
theorem with_any (qb bi : Int) (ao0 : Option Addr) (n0 cp0 : Nat) (ao : Option Addr) (n cp : Nat) (ops : List Gop) (w : World) (h : OpsAt w ao n ops) (hn : n ≤ 10000) (hb : ∀ g ∈ ops, g.ctl.length ≤ 1000 ∧ g.cnd.length ≤ 1000) :
    Calls Tryd.prog 41 #[.agg #[.int .i64 qb, .int .i64 bi, .slice ao0 n0 cp0], .slice ao n cp] w fun e w' => (∃ (a' : Option Addr) (c' : Nat), e = .returned (.agg #[.int .i64 qb, .int .i64 bi, .slice a' n c']) ∧ n ≤ c' ∧ c' ≤ maxLen ∧ OpsO w' (w.heap.size + 3) (.slice a' n c') ops) ∧ Ext w w' := by
  obtain ⟨i0, hi, hz0, hz1, hz2⟩ := info_parts op_info
  have Hl := Lib.hid h.1
  obtain ⟨H, hH⟩ : ∃ H, w.heap.size = H := ⟨_, rfl⟩
  obtain ⟨A1, hA1⟩ : ∃ A1, w.alloc (.cells #[.int .i64 qb, .int .i64 bi, .slice ao0 n0 cp0] 24) = A1 := ⟨_, rfl⟩
  obtain ⟨A2, hA2⟩ : ∃ A2, A1.alloc (.cells #[.int .i64 0, .int .i64 0, .slice none 0 0] 24) = A2 := ⟨_, rfl⟩
  obtain ⟨A3, hA3⟩ : ∃ A3, A2.alloc (.cells #[.int .i64 qb, .int .i64 bi, .slice none 0 0] 24) = A3 := ⟨_, rfl⟩
  have hA2' : (w.alloc (.cells #[.int .i64 qb, .int .i64 bi, .slice ao0 n0 cp0] 24)).alloc (.cells #[.int .i64 0, .int .i64 0, .slice none 0 0] 24) = A2 := by rw [hA1, hA2]
  have s1 : A1.heap.size = H + 1 := by rw [← hA1, ← hH]; simp
  have s2 : A2.heap.size = H + 2 := by rw [← hA2]; simp; omega
  have s3 : A3.heap.size = H + 3 := by rw [← hA3]; simp; omega
  have x1 : Ext w A1 := by rw [← hA1]; exact ext_al _ _
  have x2 : Ext A1 A2 := by rw [← hA2]; exact ext_al _ _
  have x3 : Ext A2 A3 := by rw [← hA3]; exact ext_al _ _
  have bC : CiB A2 H qb bi ao0 n0 cp0 := by
    have : CiB A1 H qb bi ao0 n0 cp0 := by rw [← hA1, ← hH]; exact ⟨heap_alloc_new w _⟩
    exact this.ext x2
  have bR : CiB A3 (H + 1) 0 0 none 0 0 := by
    have : CiB A2 (H + 1) 0 0 none 0 0 := by rw [← hA2, ← s1]; exact ⟨heap_alloc_new A1 _⟩
    exact this.ext x3
  have bO : CiB A3 (H + 2) qb bi none 0 0 := by rw [← hA3, ← s2]; exact ⟨heap_alloc_new A2 _⟩
  have HhH := Lib.hid hH
  have m0 := bC.x0; have m1 := bC.x1
  have HA := Lib.hid hA2'; have HA3 := Lib.hid hA3; have HE3 := Lib.hid ((x1.trans x2).trans x3); have HbR := Lib.hid bR; have HbO := Lib.hid bO; have Hops := Lib.hid h; have Hb := Lib.hid hb
  have Hs3 := Lib.hid s3; have Hs2 := Lib.hid s2
  rw [← hH] at m0 m1
  rw [← hA2'] at m0 m1
  clear h hb hA1 hA2 hA3 hA2' s1 s2 s3 x1 x2 x3 bC bR bO
  go_enter Tryd.func41, Tryd.ntmps41
  go_wp2_with fail
  rw [HA.out, HA3.out]
  go_loopg [7, 15] n (fun kk s7 s15 wx => ∃ (i : Nat) (av : Option Addr) (cv : Nat), s15 = .int .i64 (i : Int) ∧ i ≤ n ∧ n - i = kk ∧ CiB wx (H + 1) 0 0 none 0 0 ∧ CiB wx (H + 2) qb bi av i cv ∧ OpsO wx (H + 3) (.slice av i cv) (ops.take i) ∧ Ext w wx ∧ H + 3 ≤ wx.heap.size)
  case atStart => exact ⟨0, none, 0, rfl, by omega, by omega, HbR.out, HbO.out, OpsO.nil _ _, HE3.out, by rw [Hs3.out]; exact Nat.le_refl _⟩
  case round =>
    clear HbR HbO HE3 m0 m1
    obtain ⟨i, av, cv, rfl, hin', hk, bR, bO, hown, hX, hbs⟩ := hrel
    by_cases hin : i = n
    · have q1 : ¬ (i : Int) < (n : Int) := by omega
      have q1' : decide ((i : Int) < (n : Int)) = false := df q1
      have htk : ops.take i = ops := List.take_of_length_le (by rw [Hl.out]; omega)
      rw [htk] at hown
      have y0 := bO.x0; have y1 := bO.x1; have y2 := bO.x2
      have r0 := bR.x0; have r1 := bR.x1; have r2 := bR.x2; have g0 := bR.f 0; have g1 := bR.f 1; have g2 := bR.f 2
      have hO3 : Only (H + 1) wr (((wr.setCell ⟨H + 1, 0, none⟩ (.int .i64 qb)).setCell ⟨H + 1, 1, none⟩ (.int .i64 bi)).setCell ⟨H + 1, 2, none⟩ (.slice av i cv)) := (((Only.refl _ _).setCell _ _).setCell _ _).setCell _ _
      have hoF := hown.only bR.row (by decide) hO3 (by simp) (by omega)
      obtain ⟨a9, c9, ev9, k1, k2, _⟩ := hoF.at
      rw [Hl.out] at ev9 k1
      have hav : av = a9 ∧ cv = c9 := by
        injection ev9 with e1 e2 e3
        exact ⟨e1, e3⟩
      obtain ⟨rfl, rfl⟩ := hav
      have zC : CiB (((wr.setCell ⟨H + 1, 0, none⟩ (.int .i64 qb)).setCell ⟨H + 1, 1, none⟩ (.int .i64 bi)).setCell ⟨H + 1, 2, none⟩ (.slice av i cv)) (H + 1) qb bi av i cv := ((bR.set0 qb).set1 bi).set2 av i cv
      have HE := Lib.hid (cput (o := 2) (cput (o := 1) (cput (o := 0) hX (show w.heap.size ≤ H + 1 by omega) (.int .i64 qb)) (show w.heap.size ≤ H + 1 by omega) (.int .i64 bi)) (show w.heap.size ≤ H + 1 by omega) (.slice av i cv))
      have HoF := Lib.hid hoF; have Hk1 := Lib.hid k1; have Hk2 := Lib.hid k2; have Hin := Lib.hid hin; have HzC := Lib.hid zC
      clear hown hO3 hoF ev9 k1 k2 bR bO hX hin htk zC hk hin'
      go_wp2_with fail
      generalize ((wr.setCell ⟨H + 1, 0, none⟩ (.int .i64 qb)).setCell ⟨H + 1, 1, none⟩ (.int .i64 bi)).setCell ⟨H + 1, 2, none⟩ (.slice av i cv) = Wz at *
      have z0 := HzC.out.x0; have z1 := HzC.out.x1; have z2 := HzC.out.x2
      exact bodyPost_ret (v := .agg #[.int .i64 qb, .int .i64 bi, .slice av i cv]) (by simp [results, Tryd.results41, go_sem, z0, z1, z2]) rfl ⟨⟨av, cv, by rw [Hin.out], Hk1.out, Hk2.out, Eq.mp (congrArg (fun v => OpsO _ (H + 3) v ops) (show Value.slice av i cv = Value.slice av n cv by rw [Hin.out])) HoF.out⟩, HE.out⟩
    · have q1 : (i : Int) < (n : Int) := by omega
      have q1' : decide ((i : Int) < (n : Int)) = true := dt q1
      have q0 : (0 : Int) ≤ (i : Int) := by omega
      obtain ⟨gg, hg⟩ : ∃ g, ops[i]? = some g := ⟨_, List.getElem?_eq_getElem (by rw [Hl.out]; omega)⟩
      have hst : ops.take (i + 1) = ops.take i ++ [gg] := by rw [List.take_add_one, hg]; rfl
      obtain ⟨bo, oo, rfl⟩ := (Hops.out.ext hX).some_of (by omega)
      obtain ⟨a1, n1, c1, a2, n2, c2, t0, t1, t2, t3, t4, t5, hLo⟩ := (Hops.out.ext hX).at i gg hg
      obtain ⟨hbl1, hbl2⟩ := Hb.out gg (List.mem_of_getElem? hg)
      obtain ⟨kd, kk', ctl, qq, bb, cnd⟩ := gg
      simp only at t0 t1 t3 t4 hbl1 hbl2
      have hn1 : n1 ≤ 1000 := by rw [← hLo.i1.1]; exact hbl1
      have hn2 : n2 ≤ 1000 := by rw [← hLo.i2.1]; exact hbl2
      have hown' := hown
      obtain ⟨xs0, ho0, _⟩ := hown
      have hnb : ∀ k, (Value.slice av i cv).ownBlock = some k → k < wr.heap.size := fun k hk' => (own_lt ho0 k hk').2
      obtain ⟨U, hU⟩ : ∃ U, wr.alloc (.cells #[.int .i64 kd, .int .i64 kk', .slice a1 n1 c1, .int .i64 qq, .int .i64 bb, .slice a2 n2 c2] 58) = U := ⟨_, rfl⟩
      obtain ⟨Bx, hBx⟩ : ∃ x, wr.heap.size = x := ⟨_, rfl⟩
      have hEU : Ext wr U := by rw [← hU]; exact ext_al _ _
      have bx : OpBx U Bx kd kk' a1 n1 c1 qq bb a2 n2 c2 := by rw [← hU, ← hBx]; exact opbx_new wr kd kk' a1 n1 c1 qq bb a2 n2 c2
      rw [hBx] at hnb
      have HOu := Lib.hid (hown'.ext hEU); have HbR := Lib.hid (bR.ext hEU); have HbO := Lib.hid (bO.ext hEU); have HEU := Lib.hid (hX.trans hEU); have Hbx := Lib.hid bx; have Hnb := Lib.hid hnb
      have HCp := Lib.hid (fun wx (hx : Ext U wx) => ccopyOp_any ⟨kd, kk', ctl, qq, bb, cnd⟩ a1 n1 c1 a2 n2 c2 wx ((hLo.ext hEU).ext hx) (by omega) (by omega))
      simp only at HCp
      have Hst := Lib.hid hst; have HU := Lib.hid hU
      have hbs' : H + 3 ≤ U.heap.size := Nat.le_trans hbs hEU.size
      clear hown' ho0 bR bO hX hEU bx hnb hLo hst hU hg hbl1 hbl2 hbs
      have hbs := hbs'
      clear hbs'
      go_upto_region 5 with fail
      rw [HU.out]
      clear t0 t1 t2 t3 t4 t5
      have v2 := HbO.out.x2
      have e0 := Hbx.out.x0; have e1 := Hbx.out.x1; have e2 := Hbx.out.x2; have e3 := Hbx.out.x3; have e4 := Hbx.out.x4; have e5 := Hbx.out.x5
      have hE0d : Ext U U.drew := Below.drew (Ext.refl _)
      refine wp_region_K 7 (fun w' => w'.cell? ⟨H + 2, 2, none⟩ = some (.slice av i cv) ∧ w'.cell? ⟨Bx, 0, none⟩ = some (.int .i64 kd) ∧ w'.cell? ⟨Bx, 1, none⟩ = some (.int .i64 kk') ∧ w'.cell? ⟨Bx, 2, none⟩ = some (.slice a1 n1 c1) ∧ w'.cell? ⟨Bx, 3, none⟩ = some (.int .i64 qq) ∧ w'.cell? ⟨Bx, 4, none⟩ = some (.int .i64 bb) ∧ w'.cell? ⟨Bx, 5, none⟩ = some (.slice a2 n2 c2)) (by kernel_rfl) ?_
      show anyK _ _ _ _ _ _ 8 #[false, false, false, false, false, false, false, false] _ _
      have hHeld : U.drew.cell? ⟨H + 2, 2, none⟩ = some (.slice av i cv) ∧ U.drew.cell? ⟨Bx, 0, none⟩ = some (.int .i64 kd) ∧ U.drew.cell? ⟨Bx, 1, none⟩ = some (.int .i64 kk') ∧ U.drew.cell? ⟨Bx, 2, none⟩ = some (.slice a1 n1 c1) ∧ U.drew.cell? ⟨Bx, 3, none⟩ = some (.int .i64 qq) ∧ U.drew.cell? ⟨Bx, 4, none⟩ = some (.int .i64 bb) ∧ U.drew.cell? ⟨Bx, 5, none⟩ = some (.slice a2 n2 c2) := ⟨v2, e0, e1, e2, e3, e4, e5⟩
      refine anyK_take (i := 0) (v := ?_) rfl (by kernel_rfl) (by kernel_rfl) (by kernel_rfl) (N := 8) (by kernel_rfl) (by kernel_rfl) (by kernel_rfl) (fun _ _ _ h => h) (Or.inl ⟨by rfl, ?_⟩) hHeld ?_
      rotate_left 1
      · intro w hSw
        go_simp
        try with_reducible rfl
      show anyK _ _ _ _ _ _ _ _ (Act.put _ (some 19) _) _
      simp only [Act.put, List.setIfInBounds_toArray, List.set_cons_zero, List.set_cons_succ]
      refine anyK_take (i := 1) (v := ?_) rfl (by kernel_rfl) (by kernel_rfl) (by kernel_rfl) (N := 8) (by kernel_rfl) (by kernel_rfl) (by kernel_rfl) (fun _ _ _ h => h) (Or.inl ⟨by rfl, ?_⟩) hHeld ?_
      rotate_left 1
      · intro w hSw
        go_simp
        try with_reducible rfl
      show anyK _ _ _ _ _ _ _ _ (Act.put _ (some 20) _) _
      simp only [Act.put, List.setIfInBounds_toArray, List.set_cons_zero, List.set_cons_succ]
      refine anyK_take (i := 2) (v := ?_) rfl (by kernel_rfl) (by kernel_rfl) (by kernel_rfl) (N := 8) (by kernel_rfl) (by kernel_rfl) (by kernel_rfl) (fun _ _ _ h => h) (Or.inl ⟨by rfl, ?_⟩) hHeld ?_
      rotate_left 1
      · intro w hSw
        go_simp
        try with_reducible rfl
      show anyK _ _ _ _ _ _ _ _ (Act.put _ (some 21) _) _
      simp only [Act.put, List.setIfInBounds_toArray, List.set_cons_zero, List.set_cons_succ]
      clear hHeld
      refine anyK_one (i := 3) (by kernel_rfl) rfl (fun Kk hKk => ?_)
      go_simp
      (go_at_call 67; refine (HCp.out _ hE0d).mono ?_; rintro e w4 ⟨⟨a3, c3, a5, c5, rfl, O4⟩, hx4⟩; have he4 : Ext U w4 := hE0d.trans hx4)
      go_wp2_with fail
      refine hKk.out _ _ (fun _ => ⟨cell_ext v2 he4, cell_ext e0 he4, cell_ext e1 he4, cell_ext e2 he4, cell_ext e3 he4, cell_ext e4 he4, cell_ext e5 he4⟩) ?_
      clear hKk Kk
      simp only [List.setIfInBounds_toArray, List.set_cons_zero, List.set_cons_succ]
      have he5 : Ext U (w4.alloc (.cells #[.int .i64 kd, .int .i64 kk', .slice a3 n1 c3, .int .i64 qq, .int .i64 bb, .slice a5 n2 c5] 58)) := he4.trans (ext_al _ _)
      refine anyK_one (i := 4) (by kernel_rfl) rfl (fun Kk hKk => ?_)
      go_wp2_with fail
      refine hKk.out _ _ (fun _ => ⟨cell_ext v2 he5, cell_ext e0 he5, cell_ext e1 he5, cell_ext e2 he5, cell_ext e3 he5, cell_ext e4 he5, cell_ext e5 he5⟩) ?_
      clear hKk Kk
      simp only [List.setIfInBounds_toArray, List.set_cons_zero, List.set_cons_succ]
      obtain ⟨xs, ho, hzx⟩ := (HOu.out.ext he4)
      have ho5 := ho.alloc (.cells #[.int .i64 kd, .int .i64 kk', .slice a3 n1 c3, .int .i64 qq, .int .i64 bb, .slice a5 n2 c5] 58)
      have hli : (ops.take i).length = i := by rw [List.length_take, Hl.out]; omega
      obtain ⟨g, cap, w7, hrun, hown', hgrow', hcase, hglt⟩ := run_append_lies (P := Tryd.prog) (w4.alloc (.cells #[.int .i64 kd, .int .i64 kk', .slice a3 n1 c3, .int .i64 qq, .int .i64 bb, .slice a5 n2 c5] 58)) 22 22 (H + 3) 58 i0 (.agg #[.int .i64 0, .int .i64 0, .slice none 0 0, .int .i64 0, .int .i64 0, .slice none 0 0]) 6 80 Tryd.underlying22 hi hz0 hz1 hz2 rfl (by decide) (.slice av i cv) (ops.take i).length xs ho5 ⟨w4.heap.size, 0, none⟩ 1 1 [.int .i64 kd, .int .i64 kk', .slice a3 n1 c3, .int .i64 qq, .int .i64 bb, .slice a5 n2 c5] rfl (new_op w4 _ _ _ _ _ _ _ _ _ _ _) (one_op _ _ _ _ _ _ _ _ _ _) (by omega) (by rw [hli]; unfold maxLen; omega) (by rw [hli]; omega) (Nat.le_trans hbs he5.size) _ rfl
      rw [hli] at hrun
      refine anyK_one (i := 5) (by kernel_rfl) rfl (fun Kk hKk => ?_)
      refine stepK_append rfl _ _ 22 rfl (.slice av i cv) (.slice (some ⟨w4.heap.size, 0, none⟩) 1 1) _ rfl rfl hrun ?_
      have hkind := PtKind ho5
      have hk7 : ∀ (b' : Nat) (cur : Array Value) (fr : Nat × Nat), (w4.alloc (.cells #[.int .i64 kd, .int .i64 kk', .slice a3 n1 c3, .int .i64 qq, .int .i64 bb, .slice a5 n2 c5] 58)).heap[b']? = some (.cells cur 3 fr) → w7.heap[b']? = (w4.alloc (.cells #[.int .i64 kd, .int .i64 kk', .slice a3 n1 c3, .int .i64 qq, .int .i64 bb, .slice a5 n2 c5] 58)).heap[b']? := fun b' cur fr hb' => by
        refine hgrow'.block b' (Array.getElem?_eq_some_iff.1 hb').1 (fun e => ?_)
        obtain ⟨_, cs, fr', e2⟩ := hkind b' e.symm
        rw [e2] at hb'
        cases hb'
      have O7 := (O4.ext (ext_al _ (.cells #[.int .i64 kd, .int .i64 kk', .slice a3 n1 c3, .int .i64 qq, .int .i64 bb, .slice a5 n2 c5] 58))).keep hgrow'.size hk7
      have own7 := OpsO.snoc hown' ho.1 hzx (fun g a1 n1 c1 a2 n2 c2 h => (h.ext (ext_al _ _)).keep hgrow'.size hk7) O7
      rw [hli] at own7
      clear hli
      have bOut7 : CiB w7 (H + 2) qb bi av i cv := CiB_grown hgrow' hkind (HbO.out.ext he5) (by omega)
      have bRes7 : CiB w7 (H + 1) 0 0 none 0 0 := CiB_grown hgrow' hkind (HbR.out.ext he5) (by omega)
      have bBox7 : OpBx w7 Bx kd kk' a1 n1 c1 qq bb a2 n2 c2 := ⟨(hgrow'.block _ (Hbx.out.ext he5).lt (fun e => by have := Hnb.out _ e.symm; omega)).trans (Hbx.out.ext he5).row⟩
      have x2' := bOut7.x2; have fz2 := bOut7.f 2
      have hHeld : w7.cell? ⟨H + 2, 2, none⟩ = some (.slice av i cv) ∧ w7.cell? ⟨Bx, 0, none⟩ = some (.int .i64 kd) ∧ w7.cell? ⟨Bx, 1, none⟩ = some (.int .i64 kk') ∧ w7.cell? ⟨Bx, 2, none⟩ = some (.slice a1 n1 c1) ∧ w7.cell? ⟨Bx, 3, none⟩ = some (.int .i64 qq) ∧ w7.cell? ⟨Bx, 4, none⟩ = some (.int .i64 bb) ∧ w7.cell? ⟨Bx, 5, none⟩ = some (.slice a2 n2 c2) := ⟨x2', bBox7.x0, bBox7.x1, bBox7.x2, bBox7.x3, bBox7.x4, bBox7.x5⟩
      refine hKk.out _ _ (fun _ => hHeld) ?_
      clear hKk Kk
      show anyK _ _ _ _ _ _ _ _ (Act.put _ (some 24) _) _
      simp only [Act.put, List.setIfInBounds_toArray, List.set_cons_zero, List.set_cons_succ]
      refine anyK_take (i := 6) (v := ?_) rfl (by kernel_rfl) (by kernel_rfl) (by kernel_rfl) (N := 8) (by kernel_rfl) (by kernel_rfl) (by kernel_rfl) (fun _ _ _ h => h) (Or.inl ⟨by rfl, ?_⟩) hHeld ?_
      rotate_left 1
      · intro w hSw
        go_simp
        try with_reducible rfl
      show anyK _ _ _ _ _ _ _ _ (Act.put _ (some 25) _) _
      simp only [Act.put, List.setIfInBounds_toArray, List.set_cons_zero, List.set_cons_succ]
      clear hHeld
      refine anyK_one (i := 7) (by kernel_rfl) rfl (fun Kk hKk => ?_)
      refine stepK_store rfl rfl _ _ rfl (H + 2) 2 (some ⟨g, 0, none⟩) (i + 1) cap (.slice av i cv) rfl rfl x2' fz2 ?_
      refine hKk.out _ _ (fun h => Bool.noConfusion (show true = false from h)) ?_
      clear hKk Kk
      simp only [List.setIfInBounds_toArray, List.set_cons_zero, List.set_cons_succ]
      refine anyK_done (by kernel_rfl) ?_ _
      have hOo := only1 w7 (H + 2) 2 (.slice (some ⟨g, 0, none⟩) (i + 1) cap)
      have Hown8 := Lib.hid (own7.only bOut7.row (by decide) hOo (by simp) (by omega))
      have HbO8 := Lib.hid (bOut7.set2 (some ⟨g, 0, none⟩) (i + 1) cap)
      have HbR8 := Lib.hid (show CiB (w7.setCell ⟨H + 2, 2, none⟩ (.slice (some ⟨g, 0, none⟩) (i + 1) cap)) (H + 1) 0 0 none 0 0 from ⟨(hOo.block _ (by omega)).trans bRes7.row⟩)
      have HE8 := Lib.hid (cput (o := 2) (grown_ext (HEU.out.trans he5) hgrow' (fun k hk => by have := (hkind k hk).1; have := HhH.out; omega)) (show w.heap.size ≤ H + 2 by have := HhH.out; omega) (.slice (some ⟨g, 0, none⟩) (i + 1) cap))
      have Hs8 := Lib.hid (show H + 3 ≤ (w7.setCell ⟨H + 2, 2, none⟩ (.slice (some ⟨g, 0, none⟩) (i + 1) cap)).heap.size by simp; exact Nat.le_trans (Nat.le_trans hbs he5.size) hgrow'.size)
      clear own7 bOut7 bRes7 bBox7 O7 hk7 hkind hgrow' hown' hrun ho5 ho hzx O4 hx4 he4 he5 hE0d v2 e0 e1 e2 e3 e4 e5 x2' fz2 hOo
      generalize w7.setCell ⟨H + 2, 2, none⟩ (.slice (some ⟨g, 0, none⟩) (i + 1) cap) = w8 at *
      go_wp2_with fail
      go_roundg (n - (i + 1))
      case measure => omega
      case rel => exact ⟨i + 1, some ⟨g, 0, none⟩, cap, by go_num, by omega, rfl, HbR8.out, HbO8.out, by rw [Hst.out]; exact Hown8.out, HE8.out, Hs8.out⟩

end Go.Proofs.YtfjbhiihfibbaaaDoor

/-
  Operations turned round in place.
-/
namespace Go.Proofs.YtfjbhiihfibbaaaDoor
open Go.RowKit

/-- Six cells are laid from p on. -/
def set6 (cs : Array Value) (p : Nat) (f : Nat → Value) : Array Value :=
  (((((cs.setIfInBounds p (f 0)).setIfInBounds (p + 1) (f 1)).setIfInBounds (p + 2) (f 2)).setIfInBounds (p + 3) (f 3)).setIfInBounds (p + 4) (f 4)).setIfInBounds (p + 5) (f 5)
theorem set6_size (cs : Array Value) (p : Nat) (f : Nat → Value) : (set6 cs p f).size = cs.size := by simp [set6]
theorem set6_in (cs : Array Value) (p : Nat) (f : Nat → Value) (k : Nat) (hk : k < 6) (hp : p + 6 ≤ cs.size) : (set6 cs p f)[p + k]? = some (f k) := by
  have : k = 0 ∨ k = 1 ∨ k = 2 ∨ k = 3 ∨ k = 4 ∨ k = 5 := by omega
  unfold set6
  rcases this with rfl | rfl | rfl | rfl | rfl | rfl
  all_goals
    simp only [Array.getElem?_setIfInBounds, Array.size_setIfInBounds]
    repeat (first | rw [if_neg (by omega)] | rw [if_pos (by omega)] | rw [if_pos trivial])
theorem set6_out (cs : Array Value) (p : Nat) (f : Nat → Value) (q : Nat) (hq : q < p ∨ p + 6 ≤ q) : (set6 cs p f)[q]? = cs[q]? := by
  unfold set6
  simp only [Array.getElem?_setIfInBounds]
  repeat rw [if_neg (by omega)]

/-- Operations in a block: cs holds them from its begin on. -/
def RowOf (w : World) (cs : Array Value) (ops : List Gop) : Prop :=
  ∀ t g, ops[t]? = some g → ∃ (a1 : Option Addr) (n1 c1 : Nat) (a2 : Option Addr) (n2 c2 : Nat),
    cs[t * 6]? = some (.int .i64 g.kind) ∧ cs[t * 6 + 1]? = some (.int .i64 g.k) ∧ cs[t * 6 + 2]? = some (.slice a1 n1 c1) ∧ cs[t * 6 + 3]? = some (.int .i64 g.q) ∧ cs[t * 6 + 4]? = some (.int .i64 g.bit) ∧ cs[t * 6 + 5]? = some (.slice a2 n2 c2) ∧ OpO w g a1 n1 c1 a2 n2 c2
theorem opsO_open {w : World} {base : Nat} {a : Option Addr} {n c : Nat} {ops : List Gop} (h : OpsO w base (.slice a n c) ops) (hn : 0 < n) :
    ops.length = n ∧ ∃ g cur, a = some ⟨g, 0, none⟩ ∧ base ≤ g ∧ w.heap[g]? = some (.cells cur 58 (0, 0)) ∧ n ≤ c ∧ c ≤ maxLen ∧ cur.size = c * 6 ∧ RowOf w cur ops := by
  obtain ⟨xs, h1, h2⟩ := h
  rcases h1.2 with ⟨e, h0⟩ | ⟨g, cap, cur, hv, hb, hg, hnc, hcm, hsz, htk⟩
  · injection e with _ e2 _; omega
  · injection hv with e1 e2 e3
    subst e1; subst e3
    refine ⟨e2.symm, g, cur, rfl, hb, hg, by omega, hcm, hsz, fun t gg hgg => ?_⟩
    obtain ⟨a1, n1, c1, a2, n2, c2, x0, x1, x2, x3, x4, x5, x6⟩ := h2 t gg hgg
    have ht := (List.getElem?_eq_some_iff.1 hgg).1
    have hc : ∀ j, j < ops.length * 6 → xs[j]? = cur[j]? := by
      intro j hj
      rw [← htk, List.getElem?_take, if_pos hj, Array.getElem?_toList]
    exact ⟨a1, n1, c1, a2, n2, c2, by rw [← hc _ (by omega)]; exact x0, by rw [← hc _ (by omega)]; exact x1, by rw [← hc _ (by omega)]; exact x2, by rw [← hc _ (by omega)]; exact x3, by rw [← hc _ (by omega)]; exact x4, by rw [← hc _ (by omega)]; exact x5, x6⟩
theorem opsO_close {w : World} {base g n c : Nat} {cur : Array Value} {ops : List Gop} (hl : ops.length = n) (hb : base ≤ g) (hg : w.heap[g]? = some (.cells cur 58 (0, 0))) (hnc : n ≤ c) (hcm : c ≤ maxLen) (hsz : cur.size = c * 6) (h : RowOf w cur ops) :
    OpsO w base (.slice (some ⟨g, 0, none⟩) n c) ops := by
  refine ⟨cur.toList.take (n * 6), ⟨by rw [List.length_take, Array.length_toList, hsz, hl]; omega, Or.inr ⟨g, c, cur, by rw [hl], hb, hg, by omega, hcm, hsz, by rw [hl]⟩⟩, fun t gg hgg => ?_⟩
  obtain ⟨a1, n1, c1, a2, n2, c2, x0, x1, x2, x3, x4, x5, x6⟩ := h t gg hgg
  have ht := (List.getElem?_eq_some_iff.1 hgg).1
  have hc : ∀ j, j < n * 6 → (cur.toList.take (n * 6))[j]? = cur[j]? := by
    intro j hj
    rw [List.getElem?_take, if_pos hj, Array.getElem?_toList]
  exact ⟨a1, n1, c1, a2, n2, c2, by rw [hc _ (by omega)]; exact x0, by rw [hc _ (by omega)]; exact x1, by rw [hc _ (by omega)]; exact x2, by rw [hc _ (by omega)]; exact x3, by rw [hc _ (by omega)]; exact x4, by rw [hc _ (by omega)]; exact x5, x6⟩
/-- The outer i on each side changed places. -/
def half (ops : List Gop) (i : Nat) : List Gop := ops.reverse.take i ++ ((ops.drop i).take (ops.length - 2 * i) ++ ops.reverse.drop (ops.length - i))
theorem half_len {ops : List Gop} {i : Nat} (h : 2 * i ≤ ops.length) : (half ops i).length = ops.length := by
  unfold half
  simp only [List.length_append, List.length_take, List.length_drop, List.length_reverse]
  omega
theorem half_get {ops : List Gop} {i t : Nat} (h : 2 * i ≤ ops.length) (ht : t < ops.length) : (half ops i)[t]? = if t < i ∨ ops.length - i ≤ t then ops[ops.length - 1 - t]? else ops[t]? := by
  unfold half
  by_cases h1 : t < i
  · rw [if_pos (Or.inl h1), List.getElem?_append_left (by rw [List.length_take, List.length_reverse]; omega), List.getElem?_take, if_pos h1, List.getElem?_reverse (by omega)]
  · rw [List.getElem?_append_right (by rw [List.length_take, List.length_reverse]; omega)]
    have e1 : (ops.reverse.take i).length = i := by rw [List.length_take, List.length_reverse]; omega
    rw [e1]
    by_cases h2 : ops.length - i ≤ t
    · rw [if_pos (Or.inr h2), List.getElem?_append_right (by simp only [List.length_take, List.length_drop]; omega)]
      have e2 : ((ops.drop i).take (ops.length - 2 * i)).length = ops.length - 2 * i := by simp only [List.length_take, List.length_drop]; omega
      rw [e2, List.getElem?_drop, show ops.length - i + (t - i - (ops.length - 2 * i)) = t by omega, List.getElem?_reverse (by omega)]
    · rw [if_neg (by omega), List.getElem?_append_left (by simp only [List.length_take, List.length_drop]; omega), List.getElem?_take, if_pos (by omega), List.getElem?_drop, show i + (t - i) = t by omega]
theorem half_done {ops : List Gop} {i : Nat} (h : 2 * i ≤ ops.length) (h2 : ops.length ≤ 2 * i + 1) : half ops i = ops.reverse := by
  apply List.ext_getElem?
  intro t
  by_cases ht : t < ops.length
  · rw [half_get h ht, List.getElem?_reverse ht]
    split
    · rfl
    · congr 1; omega
  · rw [List.getElem?_eq_none (by rw [half_len h]; omega), List.getElem?_eq_none (by rw [List.length_reverse]; omega)]
theorem half_zero (ops : List Gop) : half ops 0 = ops := by
  unfold half
  simp

end Go.Proofs.YtfjbhiihfibbaaaDoor

/-
  slices.Reverse of operations.
-/
namespace Go.Proofs.YtfjbhiihfibbaaaDoor
open Go.RowKit

/-- The six cells of an operation. -/
def opF (g : Gop) (a1 : Option Addr) (n1 c1 : Nat) (a2 : Option Addr) (n2 c2 : Nat) : Nat → Value
  | 0 => .int .i64 g.kind
  | 1 => .int .i64 g.k
  | 2 => .slice a1 n1 c1
  | 3 => .int .i64 g.q
  | 4 => .int .i64 g.bit
  | _ => .slice a2 n2 c2
def putAt (W : World) (g p : Nat) (f : Nat → Value) : World :=
  (((((W.setCell ⟨g, p, none⟩ (f 0)).setCell ⟨g, p + 1, none⟩ (f 1)).setCell ⟨g, p + 2, none⟩ (f 2)).setCell ⟨g, p + 3, none⟩ (f 3)).setCell ⟨g, p + 4, none⟩ (f 4)).setCell ⟨g, p + 5, none⟩ (f 5)
theorem putAt_row {W : World} {g p : Nat} {cs : Array Value} {t : TypeId} (f : Nat → Value) (h : W.heap[g]? = some (.cells cs t (0, 0))) : (putAt W g p f).heap[g]? = some (.cells (set6 cs p f) t (0, 0)) :=
  row_put (row_put (row_put (row_put (row_put (row_put h rfl) rfl) rfl) rfl) rfl) rfl
theorem putAt_only (W : World) (g p : Nat) (f : Nat → Value) : Only g W (putAt W g p f) := ((((((Only.refl _ _).setCell _ _).setCell _ _).setCell _ _).setCell _ _).setCell _ _).setCell _ _
theorem putAt_size (W : World) (g p : Nat) (f : Nat → Value) : (putAt W g p f).heap.size = W.heap.size := by simp [putAt]
theorem putAt_below {B g p : Nat} {w W : World} (h : Below B w W) (hg : B ≤ g) (f : Nat → Value) : Below B w (putAt W g p f) :=
  Below.setCell (Below.setCell (Below.setCell (Below.setCell (Below.setCell (Below.setCell h (p := ⟨g, p, none⟩) hg _) (p := ⟨g, p + 1, none⟩) hg _) (p := ⟨g, p + 2, none⟩) hg _) (p := ⟨g, p + 3, none⟩) hg _) (p := ⟨g, p + 4, none⟩) hg _) (p := ⟨g, p + 5, none⟩) hg _
/-- All but the row's own block is as it was. -/
structure Rvs (v : Value) (w w' : World) : Prop where
  os : w'.os = w.os
  tape : w'.tape = w.tape
  output : w'.output = w.output
  size : w'.heap.size = w.heap.size
  block : ∀ k, v.ownBlock ≠ some k → w'.heap[k]? = w.heap[k]?
theorem Rvs.refl (v : Value) (w : World) : Rvs v w w := ⟨rfl, rfl, rfl, rfl, fun _ _ => rfl⟩
theorem Rvs.of_only {g n c : Nat} {w w' : World} (h : Only g w w') : Rvs (.slice (some ⟨g, 0, none⟩) n c) w w' := ⟨h.os, h.tape, h.output, h.size, fun k hk => h.block k (fun e => hk (by rw [e]; rfl))⟩
theorem Rvs.trans {v : Value} {a b c : World} (h : Rvs v a b) (k : Rvs v b c) : Rvs v a c := ⟨k.os.trans h.os, k.tape.trans h.tape, k.output.trans h.output, k.size.trans h.size, fun i hi => (k.block i hi).trans (h.block i hi)⟩
theorem Rvs.ext {v : Value} {w0 w w' : World} (h : Rvs v w w') (k : Ext w0 w) (hv : ∀ i, v.ownBlock = some i → w0.heap.size ≤ i) : Ext w0 w' :=
  Below.trans k ⟨h.os, h.tape, h.output, Nat.le_of_eq h.size.symm, fun i hi => h.block i (fun e => by have := hv i e; omega)⟩
theorem CiB.rvs {v : Value} {w w' : World} {g : Nat} {qb bi : Int} {ao : Option Addr} {n cp : Nat} (h : CiB w g qb bi ao n cp) (k : Rvs v w w') (hv : v.ownBlock ≠ some g) : CiB w' g qb bi ao n cp := ⟨(k.block g hv).trans h.row⟩
theorem FtB.rvs {v : Value} {w w' : World} {g : Nat} {x y : Int} (h : FtB w g x y) (k : Rvs v w w') (hv : v.ownBlock ≠ some g) : FtB w' g x y := ⟨(k.block g hv).trans h.row⟩
theorem Only.drewn {g : Nat} {w w' : World} (h : Only g w w') : Only g w w'.drew := ⟨h.os, h.tape, h.output, h.size, h.block⟩
/-- Two operations change places. -/
theorem rowOf_swap {w w' : World} {cs : Array Value} {ops : List Gop} {n i j : Nat} {gi gj : Gop} {a1 : Option Addr} {n1 c1 : Nat} {a2 : Option Addr} {n2 c2 : Nat} {b1 : Option Addr} {m1 d1 : Nat} {b2 : Option Addr} {m2 d2 : Nat}
    (hl : ops.length = n) (hij : i + j + 1 = n) (hlt : i < j) (hsz : n * 6 ≤ cs.size) (h : RowOf w cs (half ops i)) (hgi : ops[i]? = some gi) (hgj : ops[j]? = some gj)
    (hi : OpO w gi a1 n1 c1 a2 n2 c2) (hj : OpO w gj b1 m1 d1 b2 m2 d2) (hk : ∀ g a1 n1 c1 a2 n2 c2, OpO w g a1 n1 c1 a2 n2 c2 → OpO w' g a1 n1 c1 a2 n2 c2) :
    RowOf w' (set6 (set6 cs (i * 6) (opF gj b1 m1 d1 b2 m2 d2)) (j * 6) (opF gi a1 n1 c1 a2 n2 c2)) (half ops (i + 1)) := by
  intro t g hg
  have ht : t < n := by have := (List.getElem?_eq_some_iff.1 hg).1; rw [half_len (by omega), hl] at this; exact this
  rw [half_get (by omega) (by omega), hl] at hg
  by_cases e1 : t = j
  · subst e1
    rw [if_pos (by omega), show n - 1 - t = i by omega, hgi] at hg
    injection hg with hg
    subst hg
    have hin := fun k hk => set6_in (set6 cs (i * 6) (opF gj b1 m1 d1 b2 m2 d2)) (t * 6) (opF gi a1 n1 c1 a2 n2 c2) k hk (by rw [set6_size]; omega)
    exact ⟨a1, n1, c1, a2, n2, c2, hin 0 (by omega), hin 1 (by omega), hin 2 (by omega), hin 3 (by omega), hin 4 (by omega), hin 5 (by omega), hk _ _ _ _ _ _ _ hi⟩
  · have hout : ∀ k, k < 6 → (set6 (set6 cs (i * 6) (opF gj b1 m1 d1 b2 m2 d2)) (j * 6) (opF gi a1 n1 c1 a2 n2 c2))[t * 6 + k]? = (set6 cs (i * 6) (opF gj b1 m1 d1 b2 m2 d2))[t * 6 + k]? := fun k hk => set6_out _ _ _ _ (by omega)
    by_cases e2 : t = i
    · subst e2
      rw [if_pos (by omega), show n - 1 - t = j by omega, hgj] at hg
      injection hg with hg
      subst hg
      have hin := fun k hk => (hout k hk).trans (set6_in cs (t * 6) (opF gj b1 m1 d1 b2 m2 d2) k hk (by omega))
      exact ⟨b1, m1, d1, b2, m2, d2, hin 0 (by omega), hin 1 (by omega), hin 2 (by omega), hin 3 (by omega), hin 4 (by omega), hin 5 (by omega), hk _ _ _ _ _ _ _ hj⟩
    · have hg' : (half ops i)[t]? = some g := by
        rw [half_get (by omega) (by omega), hl]
        by_cases e3 : t < i ∨ n - i ≤ t
        · rw [if_pos e3]; rw [if_pos (by omega)] at hg; exact hg
        · rw [if_neg e3]; rw [if_neg (by omega)] at hg; exact hg
      obtain ⟨x1, x2, x3, x4, x5, x6, y0, y1, y2, y3, y4, y5, y6⟩ := h t g hg'
      have hin := fun k hk => (hout k hk).trans (set6_out cs (i * 6) (opF gj b1 m1 d1 b2 m2 d2) (t * 6 + k) (by omega))
      exact ⟨x1, x2, x3, x4, x5, x6, (hin 0 (by omega)).trans y0, (hin 1 (by omega)).trans y1, (hin 2 (by omega)).trans y2, (hin 3 (by omega)).trans y3, (hin 4 (by omega)).trans y4, (hin 5 (by omega)).trans y5, hk _ _ _ _ _ _ _ y6⟩

set_option maxHeartbeats 8000000 in
set_option maxRecDepth 100000 in
theorem reverse_any (base : Nat) (a : Option Addr) (n c : Nat) (ops : List Gop) (w : World) (h : OpsO w base (.slice a n c) ops) (hn : n ≤ 10000) :
    Calls Tryd.prog 42 #[.slice a n c] w fun e w' => e = .returned (.tuple #[]) ∧ OpsO w' base (.slice a n c) ops.reverse ∧ Rvs (.slice a n c) w w' := by
  by_cases h0 : n = 0
  · subst h0
    obtain ⟨_, _, hev, _, _, hat⟩ := h.at
    have hl : ops = [] := by
      injection hev with _ e2 _
      exact List.length_eq_zero_iff.1 e2.symm
    subst hl
    have HO := Lib.hid h
    have wn1 : IntKind.i64.wrap (((0 : Nat) : Int) - 1) = -1 := by decide
    clear h hev hat
    go_enter Tryd.func42, Tryd.ntmps42
    go_wp2_with fail
    go_loopg [2, 3] 0 (fun kk s2 s3 wx => s2 = .int .i64 0 ∧ s3 = .int .i64 (-1) ∧ kk = 0 ∧ wx = w)
    case atStart => exact ⟨rfl, rfl, rfl, rfl⟩
    case round =>
      obtain ⟨rfl, rfl, rfl, rfl⟩ := hrel
      go_wp2_with fail
      go_end0
      exact ⟨rfl, HO.out, Rvs.refl _ _⟩
  · obtain ⟨hl, g, cur0, rfl, hb, hg, hnc, hcm, hsz, hrow⟩ := opsO_open h (by omega)
    obtain ⟨n1, hn1⟩ : ∃ x : Int, (n : Int) - 1 = x := ⟨_, rfl⟩
    have wn1 : IntKind.i64.wrap ((n : Int) - 1) = n1 := by rw [IntKind.wrap_i64]; omega
    have Hg := Lib.hid hg; have Hrow := Lib.hid hrow; have Hl := Lib.hid hl; have Hsz := Lib.hid hsz; have Hb := Lib.hid hb; have Hnc := Lib.hid hnc; have Hcm := Lib.hid hcm
    clear h hg hrow hl hsz hb hnc hcm
    go_enter Tryd.func42, Tryd.ntmps42
    go_wp2_with fail
    go_loopg [2, 3] n (fun kk s2 s3 wx => ∃ (i : Nat) (j : Int) (cur : Array Value), s2 = .int .i64 (i : Int) ∧ s3 = .int .i64 j ∧ j = n1 - (i : Int) ∧ 2 * i ≤ n ∧ n - i = kk ∧ wx.heap[g]? = some (.cells cur 58 (0, 0)) ∧ cur.size = c * 6 ∧ RowOf wx cur (half ops i) ∧ Only g w wx)
    case atStart => exact ⟨0, n1, cur0, rfl, rfl, by omega, by omega, by omega, Hg.out, Hsz.out, by rw [half_zero]; exact Hrow.out, Only.refl _ _⟩
    case round =>
      clear Hg Hrow Hsz
      obtain ⟨i, j, cur, rfl, rfl, hj, h2i, hk, hg, hsz, hrow, hB⟩ := hrel
      by_cases hlt : (i : Int) < j
      · obtain ⟨jn, rfl⟩ : ∃ m : Nat, j = (m : Int) := ⟨j.toNat, by omega⟩
        have q1' : decide ((i : Int) < (jn : Int)) = true := dt hlt
        have hij : i + jn + 1 = n := by omega
        have b0 : (0 : Int) ≤ (i : Int) := by omega
        have b1 : (i : Int) < (n : Int) := by omega
        have b2 : (0 : Int) ≤ (jn : Int) := by omega
        have b3 : (jn : Int) < (n : Int) := by omega
        obtain ⟨gi, hgi⟩ : ∃ x, ops[i]? = some x := ⟨_, List.getElem?_eq_getElem (by rw [Hl.out]; omega)⟩
        obtain ⟨gj, hgj⟩ : ∃ x, ops[jn]? = some x := ⟨_, List.getElem?_eq_getElem (by rw [Hl.out]; omega)⟩
        obtain ⟨a1, m1, c1, a2, m2, c2, x0, x1, x2, x3, x4, x5, x6⟩ := hrow i gi (by rw [half_get (by rw [Hl.out]; omega) (by rw [Hl.out]; omega), if_neg (by rw [Hl.out]; omega)]; exact hgi)
        obtain ⟨b1', p1, d1, b2', p2, d2, y0, y1, y2, y3, y4, y5, y6⟩ := hrow jn gj (by rw [half_get (by rw [Hl.out]; omega) (by rw [Hl.out]; omega), if_neg (by rw [Hl.out]; omega)]; exact hgj)
        have ce : ∀ (k : Nat) (v : Value), cur[k]? = some v → wr.cell? ⟨g, k, none⟩ = some v := fun k v e => by rw [cell_of_row wr g k cur _ (0, 0) hg]; exact e
        have fz : ∀ k, wr.frozen? ⟨g, k, none⟩ = false := fun k => frozen_of_row wr g k _ _ hg
        have u0 := ce _ _ x0; have u1 := ce _ _ x1; have u2 := ce _ _ x2; have u3 := ce _ _ x3; have u4 := ce _ _ x4; have u5 := ce _ _ x5
        have v0 := ce _ _ y0; have v1 := ce _ _ y1; have v2 := ce _ _ y2; have v3 := ce _ _ y3; have v4 := ce _ _ y4; have v5 := ce _ _ y5
        have wi : IntKind.i64.wrap ((i : Int) + 1) = ((i + 1 : Nat) : Int) := by rw [IntKind.wrap_i64]; omega
        obtain ⟨j1, hj1⟩ : ∃ x : Int, (jn : Int) - 1 = x := ⟨_, rfl⟩
        have wj : IntKind.i64.wrap ((jn : Int) - 1) = j1 := by rw [IntKind.wrap_i64]; omega
        have ne : jn ≠ i := by omega
        have Hij := Lib.hid hij; have Hj := Lib.hid hj; have Hj1 := Lib.hid hj1; have Hn1 := Lib.hid hn1; have Hlt := Lib.hid hlt
        have Hg := Lib.hid hg; have Hsz := Lib.hid hsz; have Hrow := Lib.hid hrow; have HB := Lib.hid hB
        have Hx6 := Lib.hid x6; have Hy6 := Lib.hid y6; have Hgi := Lib.hid hgi; have Hgj := Lib.hid hgj; have H2i := Lib.hid h2i; have Hk := Lib.hid hk
        obtain ⟨kdi, ki, ctli, qi, bti, cndi⟩ := gi
        obtain ⟨kdj, kj, ctlj, qj, btj, cndj⟩ := gj
        simp only at u0 u1 u3 u4 v0 v1 v3 v4
        clear ce hij hj hj1 hn1 hg hsz hrow hB x6 y6 hgi hgj x0 x1 x2 x3 x4 x5 y0 y1 y2 y3 y4 y5 h2i hk
        have hWo : Only g wr (putAt (putAt wr g (i * 6) (opF ⟨kdj, kj, ctlj, qj, btj, cndj⟩ b1' p1 d1 b2' p2 d2)) g (jn * 6) (opF ⟨kdi, ki, ctli, qi, bti, cndi⟩ a1 m1 c1 a2 m2 c2)) := ((((((putAt_only wr g (i * 6) (opF ⟨kdj, kj, ctlj, qj, btj, cndj⟩ b1' p1 d1 b2' p2 d2)).setCell _ _).setCell _ _).setCell _ _).setCell _ _).setCell _ _).setCell _ _
        have hWr := putAt_row (p := jn * 6) (opF ⟨kdi, ki, ctli, qi, bti, cndi⟩ a1 m1 c1 a2 m2 c2) (putAt_row (p := i * 6) (opF ⟨kdj, kj, ctlj, qj, btj, cndj⟩ b1' p1 d1 b2' p2 d2) Hg.out)
        have hWb : Only g w (putAt (putAt wr g (i * 6) (opF ⟨kdj, kj, ctlj, qj, btj, cndj⟩ b1' p1 d1 b2' p2 d2)) g (jn * 6) (opF ⟨kdi, ki, ctli, qi, bti, cndi⟩ a1 m1 c1 a2 m2 c2)) := HB.out.trans (Only.trans (putAt_only wr g (i * 6) _) (putAt_only _ g (jn * 6) _))
        have hWs : (putAt (putAt wr g (i * 6) (opF ⟨kdj, kj, ctlj, qj, btj, cndj⟩ b1' p1 d1 b2' p2 d2)) g (jn * 6) (opF ⟨kdi, ki, ctli, qi, bti, cndi⟩ a1 m1 c1 a2 m2 c2)).heap.size = wr.heap.size := by rw [putAt_size, putAt_size]
        obtain ⟨Wz, hWz⟩ : ∃ Wz, putAt (putAt wr g (i * 6) (opF ⟨kdj, kj, ctlj, qj, btj, cndj⟩ b1' p1 d1 b2' p2 d2)) g (jn * 6) (opF ⟨kdi, ki, ctli, qi, bti, cndi⟩ a1 m1 c1 a2 m2 c2) = Wz := ⟨_, rfl⟩
        rw [hWz] at hWo hWr hWb hWs
        have hki := only_ints Hg.out (by decide) hWo
        have HRz := Lib.hid (rowOf_swap (w' := Wz.drew) Hl.out Hij.out (by have := Hlt.out; omega) (by rw [Hsz.out]; have := Hnc.out; omega) Hrow.out Hgi.out Hgj.out Hx6.out Hy6.out (fun _ _ _ _ _ _ _ ho => ho.keep (w' := Wz.drew) (Nat.le_of_eq hWs.symm) hki))
        have HWz : Hid (_ = Wz) := Lib.hid hWz
        have Hrz := Lib.hid (show Wz.drew.heap[g]? = _ from hWr); have HBz := Lib.hid (Only.drewn hWb)
        have Hs6 := Lib.hid (show (set6 (set6 cur (i * 6) (opF ⟨kdj, kj, ctlj, qj, btj, cndj⟩ b1' p1 d1 b2' p2 d2)) (jn * 6) (opF ⟨kdi, ki, ctli, qi, bti, cndi⟩ a1 m1 c1 a2 m2 c2)).size = c * 6 by rw [set6_size, set6_size]; exact Hsz.out)
        clear hWo hWr hWb hWs hWz hki
        simp only [putAt, opF] at HWz
        go_upto_region 3 with fail
        go_region
        rw [HWz.out]
        generalize Wz.drew = Wd at *
        go_wp2_with fail
        go_roundg (n - (i + 1))
        case measure => have := Hk.out; have := H2i.out; have := Hij.out; omega
        case rel => exact ⟨i + 1, j1, _, rfl, rfl, by have := Hj1.out; have := Hj.out; omega, by have := Hij.out; have := Hlt.out; omega, rfl, Hrz.out, Hs6.out, HRz.out, HBz.out⟩
      · have q1' : decide ((i : Int) < j) = false := df hlt
        have hdone := half_done (ops := ops) (i := i) (by rw [Hl.out]; exact h2i) (by rw [Hl.out]; omega)
        rw [hdone] at hrow
        have HO := Lib.hid (opsO_close (base := base) (n := n) (c := c) (by rw [List.length_reverse]; exact Hl.out) Hb.out hg Hnc.out Hcm.out hsz hrow)
        have HB := Lib.hid hB
        clear hdone hrow hg hsz hB hj
        go_wp2_with fail
        go_end0
        exact ⟨rfl, HO.out, Rvs.of_only HB.out⟩

end Go.Proofs.YtfjbhiihfibbaaaDoor
