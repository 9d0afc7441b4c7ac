/-
  The turns of one qubit: turnSums. The turns of all qubits that are left: turnWhereAll. What stands aside while a builder works; the innermost closure. Qubits joined: joined and its closure.
-/
import Derived.Test.YthgmlhddanbbpaaDoorProg
import Derived.Test.YthgmlhddanbbpaaDoorRows
import Derived.BigQuiet
import Derived.Deep.AppendLies
import Derived.Deep.Cut
import Derived.Deep.CutRange
import Derived.Deep.LoopGhost
import Derived.Deep.QuietTactic
import Derived.Deep.RegionHeld3
import Derived.Defers
import Derived.Ground.Names2Prog
import Derived.Laws.AppendOwnNone
import Derived.Laws.Bits64b
import Derived.Laws.Concat
import Derived.Laws.CopyOwn
import Derived.Laws.IdiomStrings
import Derived.Laws.ResultCell
import Derived.Lib.AppendStr
import Derived.Lib.AppendZeros
import Derived.Lib.AppendZerosOnto
import Derived.Lib.BitFns
import Derived.Lib.Hide
import Derived.Lib.ItoaMem
import Derived.Lib.ItoaNum
import Derived.Lib.Strings
import Derived.Lib.TrailingZeros
import Derived.Maps.AppendAt
import Derived.OrdersIn
import Derived.OwnWalk
import Derived.RangeFuncCalls
import Derived.RangeFuncFrom
import Derived.Recover
import Derived.Shelf.Slices.Clone
import Derived.Shelf.Slices.Turned
import Derived.Shelf.Spec.TrailingZeros
import Derived.WalkKit
import Derived.WalkLawsBesides
import Derived.WalkSpells
import Derived.Test.YthgmlhddanbbpaaDoorS00Mem
import Derived.Test.YthgmlhddanbbpaaDoorShelf
import Derived.Test.YthgmlhddanbbpaaDoorS02ZCq
import Derived.Test.YthgmlhddanbbpaaDoorS03Uaq
import Derived.Test.YthgmlhddanbbpaaDoorS06Xlq
import Derived.Test.YthgmlhddanbbpaaDoorS07Cn
import Derived.Test.YthgmlhddanbbpaaDoorS08Di
import Derived.Test.YthgmlhddanbbpaaDoorS09Ka
import Derived.Test.YthgmlhddanbbpaaDoorS10Kl
import Derived.Test.YthgmlhddanbbpaaDoorS11Qb
import Derived.Test.YthgmlhddanbbpaaDoorS13Yrq
import Derived.Test.YthgmlhddanbbpaaDoorS14Qf
import Derived.Test.YthgmlhddanbbpaaDoorS15Qk
namespace Go.Proofs.YthgmlhddanbbpaaDoor
open Go.RowKit

/-- The table of TrailingZeros64 stands. -/
abbrev BruL (w : World) : Prop := TabAt (Tryd.lays29_ren.g 1) Lib.deBruijn64tab w
theorem bruL_ext {w w' : World} (h : BruL w) (he : Ext w w') : BruL w' := fun j hj => by
  have := h j hj
  exact (he.cell (World.block_lt_of_cell? w _ this)).trans this
theorem trailing_any (x : Nat) (hx : x < 18446744073709551616) (w : World) (hT : BruL w) : Calls Tryd.prog 68 #[.int .u64 x] w fun e w' => e = .returned (.int .i64 (Lib.ctz 64 x)) ∧ w' = w := by
  have HT := Lib.hid (Tryd.bits_TrailingZeros64 x hx w (fun _ => hT))
  clear hT hx
  go_enter Tryd.func68, Tryd.ntmps68
  go_wp2_with fail
  refine HT.out.mono ?_
  rintro e w' ⟨rfl, rfl⟩
  go_wp2_with fail
  go_ret
  exact ⟨rfl, rfl⟩
set_option maxHeartbeats 400000 in
/-- '[]api.Op{x}' in a drawn region. -/
theorem stepK_buildO {ops : Array Oper} {o : Oper} {a : Act} {K : Act → World → Prop} {Q : Exit → Act → World → Prop} {E : Prop} {w : World} (hgd : o.guard = none) (x : Operand) (ho : o.op = .buildSlice 22 1 #[(0, x)]) (k0 k1 : Int) (a1 : Option Addr) (n1 c1 : Nat) (k3 k4 : Int) (a2 : Option Addr) (n2 c2 : Nat)
    (hx : a.eval x = .agg #[.int .i64 k0, .int .i64 k1, .slice a1 n1 c1, .int .i64 k3, .int .i64 k4, .slice a2 n2 c2]) (h : K (a.put o.dst (.slice (some ⟨w.heap.size, 0, none⟩) 1 1)) (w.alloc (.cells #[.int .i64 k0, .int .i64 k1, .slice a1 n1 c1, .int .i64 k3, .int .i64 k4, .slice a2 n2 c2] 51))) :
    if Region.wanted o (yielded ops a.tmps) = true then Oper.wp Tryd.prog o a w K Q else E := by
  have hw : Region.wanted o (yielded ops a.tmps) = true := by simp [Region.wanted, hgd]
  rw [if_pos hw]
  obtain ⟨od, oo, ot, opp, oa, og⟩ := o
  simp only at ho
  subst ho
  have HH := Lib.hid h
  clear h
  unfold Oper.wp execOp
  simp only [hx, List.map_toArray, List.map_cons, List.map_nil]
  go_simp
  exact HH.out
/-- Lists stay while a builder works. -/
theorem BdA.list {w0 w w' : World} {Bd : Nat} {sp : Int} {v v' : Value} {ops : List Gop} (h : BdA w0 w Bd sp v ops) (m : Mv Bd v v' w w') {a : Option Addr} {n : Nat} {l : List Int} (hi : IntsAt w a n l) (ht : TyI w a) : IntsAt w' a n l ∧ TyI w' a := ⟨hi.keep ht m.size (h.ints m), ht.keep (h.ints m)⟩

set_option maxRecDepth 100000 in
set_option maxHeartbeats 4000000 in
theorem turnSums_any (w0 w : World) (Bd : Nat) (sp : Int) (v : Value) (ops : List Gop) (q k : Int) (oa : Option Addr) (on oc : Nat) (others : List Int) (ca : Option Addr) (cn cc : Nat) (cnd : List Int) (hB : BdA w0 w Bd sp v ops) (hO : IntsAt w oa on others) (hOt : TyI w oa) (hC : IntsAt w0 ca cn cnd) (hon : on ≤ 12) (hcn : cn ≤ 24) (hk : -16 ≤ k ∧ k ≤ 16) (hbr : BruL w0)
    (hl : ops.length + (lSums q others cnd (2 ^ on) 0 k).length ≤ 900000) :
    Apps w0 Bd sp 57 #[.pointer (some ⟨Bd, 0, none⟩), .int .i64 q, .slice oa on oc, .int .i64 k, .slice ca cn cc] w v ops (lSums q others cnd (2 ^ on) 0 k) := by
  unfold Apps
  have hs := shlN (q := on) (by omega)
  obtain ⟨N, hN⟩ : ∃ N, 2 ^ on = N := ⟨_, rfl⟩
  have hN4 : N ≤ 4096 := by
    rw [← hN]
    exact Nat.le_trans (Nat.pow_le_pow_right (by decide) hon) (by decide)
  rw [hN] at hs hl ⊢
  obtain ⟨tot, htot⟩ : ∃ tot, lSums q others cnd N 0 k = tot := ⟨_, rfl⟩
  rw [htot] at hl ⊢
  have HB := Lib.hid hB; have HO := Lib.hid hO; have HOt := Lib.hid hOt; have HC := Lib.hid hC; have Hon := Lib.hid hon; have Hcn := Lib.hid hcn; have Hk := Lib.hid hk; have Hbr := Lib.hid hbr; have Hl := Lib.hid hl; have HN4 := Lib.hid hN4; have Htot := Lib.hid htot
  have o0 : (0 : Int) ≤ (on : Int) := by omega
  clear hB hO hOt hC hon hcn hk hbr hl hN hN4 htot
  go_enter Tryd.func57, Tryd.ntmps57
  go_wp2_with fail
  rw [hs]
  clear hs
  go_loopg [3, 10, 11, 12, 16] N (fun kk s3 _ _ _ s16 wr => ∃ (i : Nat) (ki : Int) (vx : Value) (A : List Gop), s16 = .int .i64 (i : Int) ∧ s3 = .int .i64 ki ∧ i ≤ N ∧ N - i = kk ∧ (-16 ≤ ki ∧ ki ≤ 16) ∧ Mv Bd v vx w wr ∧ BdA w0 wr Bd sp vx (ops ++ A) ∧ A ++ lSums q others cnd (N - i) i ki = tot)
  case atStart => exact ⟨0, k, v, [], rfl, rfl, Nat.zero_le _, rfl, Hk.out, Mv.of_ext (Ext.refl _), by rw [List.append_nil]; exact HB.out, by rw [← Htot.out]; rfl⟩
  case round =>
    obtain ⟨i, ki, vx, A, rfl, rfl, hi, hkk, hki, hM, hBx, hA⟩ := hrel
    have HM := Lib.hid hM; have HBx := Lib.hid hBx; have HA := Lib.hid hA; have Hkk := Lib.hid hkk; have Hki := Lib.hid hki
    by_cases hin : i = N
    · have q1 : ¬ (i : Int) < (N : Int) := by omega
      have Hend := Lib.hid (show ∃ v', Mv Bd v v' w wr ∧ BdA w0 wr Bd sp v' (ops ++ tot) from ⟨vx, HM.out, by
        have := HA.out
        rw [hin, Nat.sub_self] at this
        have e : A = tot := by rw [← this]; simp [lSums]
        rw [← e]; exact HBx.out⟩)
      clear hin hi hkk hki hM hBx hA
      go_wp2_with fail
      go_end0
      exact ⟨rfl, Hend.out⟩
    have hlt : i < N := by omega
    have q1 : (i : Int) < (N : Int) := by omega
    obtain ⟨ip, hip⟩ : ∃ ip, i + 1 = ip := ⟨_, rfl⟩
    have wk : IntKind.i64.wrap ((i : Int) + 1) = (ip : Int) := by rw [IntKind.wrap_i64]; have := HN4.out; omega
    have wu : IntKind.u64.wrap (ip : Int) = (ip : Int) := by rw [IntKind.wrap_u64]; have := HN4.out; omega
    have Hip := Lib.hid hip
    clear hip
    have wn : IntKind.i64.wrap (-ki) = -ki := by rw [IntKind.wrap_i64]; omega
    obtain ⟨hO1, hOt1⟩ := HB.out.list HM.out HO.out HOt.out
    have hC1 := HC.out.ext hBx.ext
    have hAl : ops.length + A.length + 2 ≤ 1000000 := by
      have h1 := congrArg List.length HA.out
      rw [List.length_append] at h1
      have := Hl.out
      omega
    have Hlt := Lib.hid hlt; have HO1 := Lib.hid hO1; have HOt1 := Lib.hid hOt1; have HC1 := Lib.hid hC1; have HAl := Lib.hid hAl
    have HTu := Lib.hid (turn_any q ki wr (by omega))
    obtain ⟨kt, hkt⟩ : ∃ kt, (ki + 16).tmod 16 = kt := ⟨_, rfl⟩
    rw [hkt] at HTu
    have Hkt := Lib.hid hkt
    clear hin hi hkk hki hM hBx hA hlt hO1 hOt1 hC1 hAl hkt
    go_upto_region 3 with fail
    go_wp2_with fail
    refine HTu.out.mono ?_
    rintro e w1 ⟨rfl, hx1⟩
    obtain ⟨OB, hOB⟩ : ∃ OB, w1.heap.size = OB := ⟨_, rfl⟩
    obtain ⟨w2, hw2⟩ : ∃ w2, w1.alloc (.cells #[.int .i64 4, .int .i64 kt, .slice none 0 0, .int .i64 q, .int .i64 0, .slice none 0 0] 51) = w2 := ⟨_, rfl⟩
    have bO : OpBx w2 OB 4 kt none 0 0 q 0 none 0 0 := by rw [← hw2, ← hOB]; exact opbx_new w1 4 kt none 0 0 q 0 none 0 0
    have E2 : Ext wr w2 := hx1.trans (by rw [← hw2]; exact ext_al _ _)
    have hOBw : wr.heap.size ≤ OB := by rw [← hOB]; exact hx1.size
    have HOBge := Lib.hid hOBw; have HbO := Lib.hid bO; have HE2 := Lib.hid E2; have HOBw := Lib.hid hOBw; have HOB := Lib.hid hOB; have Hw2 := Lib.hid hw2
    have HCl := Lib.hid (cloneI_any ca cn cc cnd w2 (HC1.out.ext E2) (by have := Hcn.out; omega))
    clear hx1 bO E2 hOBw hOB hw2 HTu
    go_upto_region 4 with fail
    rw [Hw2.out, HOB.out]
    clear Hw2 HOB
    go_wp2_with fail
    refine HCl.out.mono ?_
    rintro e w3 ⟨a5, c5, rfl, hc5, hc5', hI5, hT5, hx3⟩
    have b3 := HbO.out.ext hx3
    have z5 := b3.x5; have y5 := b3.f 5
    have on3 := only1 w3 OB 5 (.slice a5 cn c5)
    have r6 : (w3.setCell ⟨OB, 5, none⟩ (.slice a5 cn c5)).heap[OB]? = some (.cells #[.int .i64 4, .int .i64 kt, .slice none 0 0, .int .i64 q, .int .i64 0, .slice a5 cn c5] 51 (0, 0)) := heap_setCell_same w3 OB 5 _ _ (.slice a5 cn c5) b3.row
    have HE6 := Lib.hid (show Ext wr (w3.setCell ⟨OB, 5, none⟩ (.slice a5 cn c5)) from ext_only (HE2.out.trans hx3) on3 HOBw.out)
    have HB6 := Lib.hid (show OpBx (w3.setCell ⟨OB, 5, none⟩ (.slice a5 cn c5)) OB 4 kt none 0 0 q 0 a5 cn c5 from ⟨r6⟩)
    have hI6 : IntsAt (w3.setCell ⟨OB, 5, none⟩ (.slice a5 cn c5)) a5 cn cnd := hI5.keep hT5 (by rw [on3.size]; exact Nat.le_refl _) (only_ints b3.row (by decide) on3)
    have hT6 : TyI (w3.setCell ⟨OB, 5, none⟩ (.slice a5 cn c5)) a5 := hT5.keep (only_ints b3.row (by decide) on3)
    have HO6 := Lib.hid (show OpO (w3.setCell ⟨OB, 5, none⟩ (.slice a5 cn c5)) (lTurn q ki cnd) none 0 0 a5 cn c5 from ⟨⟨⟨rfl, Or.inl rfl⟩, Nat.le_refl _, by decide, hI6, hc5, by unfold maxLen at hc5'; omega⟩, (fun _ e => by cases e), hT6⟩)
    clear b3 on3 r6 hI6 hT6 hI5 hT5 hx3 hc5 hc5' HCl HbO HE2 HOBw
    go_upto_region 5 with fail
    clear z5 y5
    generalize w3.setCell ⟨OB, 5, none⟩ (.slice a5 cn c5) = w6 at *
    obtain ⟨va, vc, hva⟩ := HBx.out.sl
    subst hva
    obtain ⟨LL, hLL⟩ : ∃ LL, (ops ++ A).length = LL := ⟨_, rfl⟩
    rw [hLL] at HM HBx
    have HLL := Lib.hid hLL
    have B6 := HBx.out.ext' HE6.out
    have x1 := B6.x1
    have p0 := HB6.out.x0; have p1 := HB6.out.x1; have p2 := HB6.out.x2; have p3 := HB6.out.x3; have p4 := HB6.out.x4; have p5 := HB6.out.x5
    have Ed : Ext w6 w6.drew := Below.drew (Ext.refl _)
    have HB6' := Lib.hid B6
    clear B6 hLL
    have HnOB := Lib.hid (show (Value.slice va LL vc).ownBlock ≠ some OB by
      intro e
      have h1 := (own_lt HBx.out.ops.rows.choose_spec.1 OB e).2
      have := HOBge.out
      omega)
    refine wp_region_K 10 (fun w' => w'.cell? ⟨Bd, 1, none⟩ = some (.slice va LL vc) ∧ w'.cell? ⟨OB, 0, none⟩ = some (.int .i64 4) ∧ w'.cell? ⟨OB, 1, none⟩ = some (.int .i64 kt) ∧ w'.cell? ⟨OB, 2, none⟩ = some (.slice none 0 0) ∧ w'.cell? ⟨OB, 3, none⟩ = some (.int .i64 q) ∧ w'.cell? ⟨OB, 4, none⟩ = some (.int .i64 0) ∧ w'.cell? ⟨OB, 5, none⟩ = some (.slice a5 cn c5)) (by kernel_rfl) ?_
    show anyK _ _ _ _ _ _ 11 #[false, false, false, false, false, false, false, false, false, false, false] _ _
    have hHeld : w6.drew.cell? ⟨Bd, 1, none⟩ = some (.slice va LL vc) ∧ w6.drew.cell? ⟨OB, 0, none⟩ = some (.int .i64 4) ∧ w6.drew.cell? ⟨OB, 1, none⟩ = some (.int .i64 kt) ∧ w6.drew.cell? ⟨OB, 2, none⟩ = some (.slice none 0 0) ∧ w6.drew.cell? ⟨OB, 3, none⟩ = some (.int .i64 q) ∧ w6.drew.cell? ⟨OB, 4, none⟩ = some (.int .i64 0) ∧ w6.drew.cell? ⟨OB, 5, none⟩ = some (.slice a5 cn c5) := ⟨cell_ext x1 Ed, cell_ext p0 Ed, cell_ext p1 Ed, cell_ext p2 Ed, cell_ext p3 Ed, cell_ext p4 Ed, cell_ext p5 Ed⟩
    refine anyK_take (i := 0) (v := ?_) rfl (by kernel_rfl) (by kernel_rfl) (by kernel_rfl) (N := 11) (by kernel_rfl) (by kernel_rfl) (by kernel_rfl) (fun _ _ _ h => h) (Or.inl ⟨by rfl, ?_⟩) hHeld ?_
    rotate_left 1
    · intro w hSw
      go_simp
      try with_reducible rfl
    show anyK _ _ _ _ _ _ _ _ (Act.put _ (some 25) _) _
    simp only [Act.put, List.setIfInBounds_toArray, List.set_cons_zero, List.set_cons_succ]
    refine anyK_take (i := 1) (v := ?_) rfl (by kernel_rfl) (by kernel_rfl) (by kernel_rfl) (N := 11) (by kernel_rfl) (by kernel_rfl) (by kernel_rfl) (fun _ _ _ h => h) (Or.inl ⟨by rfl, ?_⟩) hHeld ?_
    rotate_left 1
    · intro w hSw
      go_simp
      try with_reducible rfl
    show anyK _ _ _ _ _ _ _ _ (Act.put _ (some 26) _) _
    simp only [Act.put, List.setIfInBounds_toArray, List.set_cons_zero, List.set_cons_succ]
    refine anyK_take (i := 2) (v := ?_) rfl (by kernel_rfl) (by kernel_rfl) (by kernel_rfl) (N := 11) (by kernel_rfl) (by kernel_rfl) (by kernel_rfl) (fun _ _ _ h => h) (Or.inl ⟨by rfl, ?_⟩) hHeld ?_
    rotate_left 1
    · intro w hSw
      go_simp
      try with_reducible rfl
    show anyK _ _ _ _ _ _ _ _ (Act.put _ (some 27) _) _
    simp only [Act.put, List.setIfInBounds_toArray, List.set_cons_zero, List.set_cons_succ]
    refine anyK_take (i := 3) (v := ?_) rfl (by kernel_rfl) (by kernel_rfl) (by kernel_rfl) (N := 11) (by kernel_rfl) (by kernel_rfl) (by kernel_rfl) (fun _ _ _ h => h) (Or.inl ⟨by rfl, ?_⟩) hHeld ?_
    rotate_left 1
    · intro w hSw
      go_simp
      try with_reducible rfl
    show anyK _ _ _ _ _ _ _ _ (Act.put _ (some 28) _) _
    simp only [Act.put, List.setIfInBounds_toArray, List.set_cons_zero, List.set_cons_succ]
    refine anyK_take (i := 4) (v := ?_) rfl (by kernel_rfl) (by kernel_rfl) (by kernel_rfl) (N := 11) (by kernel_rfl) (by kernel_rfl) (by kernel_rfl) (fun _ _ _ h => h) (Or.inl ⟨by rfl, ?_⟩) hHeld ?_
    rotate_left 1
    · intro w hSw
      go_simp
      try with_reducible rfl
    show anyK _ _ _ _ _ _ _ _ (Act.put _ (some 29) _) _
    simp only [Act.put, List.setIfInBounds_toArray, List.set_cons_zero, List.set_cons_succ]
    refine anyK_take (i := 5) (v := ?_) rfl (by kernel_rfl) (by kernel_rfl) (by kernel_rfl) (N := 11) (by kernel_rfl) (by kernel_rfl) (by kernel_rfl) (fun _ _ _ h => h) (Or.inl ⟨by rfl, ?_⟩) hHeld ?_
    rotate_left 1
    · intro w hSw
      go_simp
      try with_reducible rfl
    show anyK _ _ _ _ _ _ _ _ (Act.put _ (some 30) _) _
    simp only [Act.put, List.setIfInBounds_toArray, List.set_cons_zero, List.set_cons_succ]
    clear hHeld
    have E7 : Ext w6 (w6.drew.alloc (.cells #[.int .i64 4, .int .i64 kt, .slice none 0 0, .int .i64 q, .int .i64 0, .slice a5 cn c5] 51)) := Ed.trans (ext_al _ _)
    refine anyK_one (i := 6) (by kernel_rfl) rfl (fun Kk hKk => ?_)
    go_wp2_with fail
    refine hKk.out _ _ (fun _ => ⟨cell_ext x1 E7, cell_ext p0 E7, cell_ext p1 E7, cell_ext p2 E7, cell_ext p3 E7, cell_ext p4 E7, cell_ext p5 E7⟩) ?_
    clear hKk Kk
    simp only [List.setIfInBounds_toArray, List.set_cons_zero, List.set_cons_succ]
    have B7 := HB6'.out.ext' E7
    have O7 := HO6.out.ext E7
    have rl7 : RowL (w6.drew.alloc (.cells #[.int .i64 4, .int .i64 kt, .slice none 0 0, .int .i64 q, .int .i64 0, .slice a5 cn c5] 51)) [.int .i64 4, .int .i64 kt, .slice none 0 0, .int .i64 q, .int .i64 0, .slice a5 cn c5] [lTurn q ki cnd] := by
      have := RowL.one O7
      simp only [lTurn] at this ⊢
      rw [Hkt.out] at this ⊢
      exact this
    obtain ⟨a8, c8, w8, r8, k8, m8, B8, M8⟩ := bd_append B7 22 (a := some ⟨w6.drew.heap.size, 0, none⟩) (n := 1) (c := 1) (gs := [lTurn q ki cnd]) rfl (fun e => by cases e) _ rfl (fun ad e => by cases e; exact new_op w6.drew _ _ _ _ _ _ _ _ _ _ _) (one_op _ _ _ _ _ _ _ _ _ _) rl7 (by have := HAl.out; rw [List.length_append]; omega)
    rw [HLL.out] at r8 B8 M8
    have y8 : w8.cell? ⟨Bd, 1, none⟩ = some (.slice va LL vc) := (World.cell?_of_block (a := ⟨Bd, 1, none⟩) k8).trans (cell_ext x1 E7)
    have f8 : w8.frozen? ⟨Bd, 1, none⟩ = false := (World.frozen?_of_block (a := ⟨Bd, 1, none⟩) k8).trans (B7.f 1)
    have h8 : w8.cell? ⟨OB, 0, none⟩ = some (.int .i64 4) ∧ w8.cell? ⟨OB, 1, none⟩ = some (.int .i64 kt) ∧ w8.cell? ⟨OB, 2, none⟩ = some (.slice none 0 0) ∧ w8.cell? ⟨OB, 3, none⟩ = some (.int .i64 q) ∧ w8.cell? ⟨OB, 4, none⟩ = some (.int .i64 0) ∧ w8.cell? ⟨OB, 5, none⟩ = some (.slice a5 cn c5) := by
      have hn1 : OB ≠ Bd := by
        rintro rfl
        have h1 := HB6'.out.row
        rw [HB6.out.row] at h1
        injection h1 with h1
        injection h1 with _ h1 _
        exact absurd h1 (by decide)
      have hb8 := m8.block OB (Nat.lt_of_lt_of_le HB6.out.lt E7.size) hn1 HnOB.out
      have bb := (HB6.out.ext E7)
      have bb8 : OpBx w8 OB 4 kt none 0 0 q 0 a5 cn c5 := ⟨hb8.trans bb.row⟩
      exact ⟨bb8.x0, bb8.x1, bb8.x2, bb8.x3, bb8.x4, bb8.x5⟩
    refine anyK_one (i := 7) (by kernel_rfl) rfl (fun Kk hKk => ?_)
    refine stepK_append rfl _ _ 22 rfl (.slice va LL vc) (.slice (some ⟨w6.drew.heap.size, 0, none⟩) 1 1) _ rfl rfl r8 ?_
    refine hKk.out _ _ (fun _ => ⟨y8, h8⟩) ?_
    clear hKk Kk
    show anyK _ _ _ _ _ _ _ _ (Act.put _ (some 32) _) _
    simp only [Act.put, List.setIfInBounds_toArray, List.set_cons_zero, List.set_cons_succ]
    have hHeld := And.intro y8 h8
    refine anyK_take (i := 8) (v := ?_) rfl (by kernel_rfl) (by kernel_rfl) (by kernel_rfl) (N := 11) (by kernel_rfl) (by kernel_rfl) (by kernel_rfl) (fun _ _ _ h => h) (Or.inl ⟨by rfl, ?_⟩) hHeld ?_
    rotate_left 1
    · intro w hSw
      go_simp
      try with_reducible rfl
    show anyK _ _ _ _ _ _ _ _ (Act.put _ (some 33) _) _
    simp only [Act.put, List.setIfInBounds_toArray, List.set_cons_zero, List.set_cons_succ]
    refine anyK_take (i := 9) (v := ?_) rfl (by kernel_rfl) (by kernel_rfl) (by kernel_rfl) (N := 11) (by kernel_rfl) (by kernel_rfl) (by kernel_rfl) (fun _ _ _ h => h) (Or.inl ⟨by rfl, ?_⟩) hHeld ?_
    rotate_left 1
    · intro w hSw
      go_simp
      try with_reducible rfl
    show anyK _ _ _ _ _ _ _ _ (Act.put _ (some 34) _) _
    simp only [Act.put, List.setIfInBounds_toArray, List.set_cons_zero, List.set_cons_succ]
    clear hHeld
    refine anyK_one (i := 10) (by kernel_rfl) rfl (fun Kk hKk => ?_)
    refine stepK_store rfl rfl _ _ rfl Bd 1 a8 (LL + 1) c8 (.slice va LL vc) rfl rfl y8 f8 ?_
    refine hKk.out _ _ (fun h => Bool.noConfusion (show true = false from h)) ?_
    clear hKk Kk
    simp only [List.setIfInBounds_toArray, List.set_cons_zero, List.set_cons_succ]
    refine anyK_done (by kernel_rfl) ?_ _
    have HM9 := Lib.hid ((HM.out.trans (Mv.of_ext (HE6.out.trans E7))).trans M8)
    have HB9 := Lib.hid B8
    clear B7 O7 rl7 r8 k8 m8 B8 M8 y8 f8 h8 E7 Ed x1 p0 p1 p2 p3 p4 p5 HO6 HB6 HB6' HnOB HOBge HE6
    generalize w8.setCell ⟨Bd, 1, none⟩ (.slice a8 (LL + 1) c8) = W9 at *
    by_cases ho0 : on = 0
    · have q2 : ¬ (0 : Int) < (on : Int) := by omega
      have Hst := Lib.hid (show (A ++ [lTurn q ki cnd]) ++ lSums q others cnd (N - (i + 1)) (i + 1) (-ki) = tot by
        rw [← HA.out, show N - i = (N - (i + 1)) + 1 by have := Hlt.out; omega, lSums, if_pos (by rw [HO.out.1]; exact ho0), List.append_assoc])
      clear ho0
      go_wp2_with fail
      go_roundg (N - (i + 1))
      case measure => have := Hkk.out; have := Hlt.out; omega
      case rel => exact ⟨i + 1, -ki, _, A ++ [lTurn q ki cnd], by rw [Hip.out], rfl, Hlt.out, rfl, by have := Hki.out; omega, HM9.out, by rw [← List.append_assoc]; exact HB9.out, Hst.out⟩
    have q2 : (0 : Int) < (on : Int) := by omega
    have hTz := trailing_any ip (by have := HN4.out; have := Hlt.out; have := Hip.out; omega) W9 (bruL_ext Hbr.out HB9.out.ext)
    obtain ⟨tz, htz⟩ : ∃ tz, Lib.ctz 64 ip = tz := ⟨_, rfl⟩
    rw [htz] at hTz
    have HTz := Lib.hid hTz
    have wo : IntKind.i64.wrap ((on : Int) - 1) = ((on - 1 : Nat) : Int) := by rw [IntKind.wrap_i64]; have := Hon.out; omega
    obtain ⟨nx, hnx⟩ : ∃ nx, min tz (on - 1) = nx := ⟨_, rfl⟩
    have mi : min (tz : Int) ((on - 1 : Nat) : Int) = (nx : Int) := by omega
    have n0 : (0 : Int) ≤ (nx : Int) := by omega
    have n1 : (nx : Int) < (on : Int) := by omega
    have hnxl : nx < on := by omega
    obtain ⟨hO9, hOt9⟩ := HB.out.list HM9.out HO.out HOt.out
    obtain ⟨ob, oo, hoa, hobl, hoc⟩ := hO9.2.resolve_left ho0
    subst hoa
    have e9 := hoc nx hnxl
    obtain ⟨cv, hcv⟩ : ∃ cv, others.getD nx 0 = cv := ⟨_, rfl⟩
    rw [hcv] at e9
    have Hcv := Lib.hid hcv
    have Hst := Lib.hid (show (A ++ [lTurn q ki cnd, lFlip q cv]) ++ lSums q others cnd (N - (i + 1)) (i + 1) (-ki) = tot by
      have hoth : oth others i = cv := by
        unfold oth
        rw [Hip.out, htz, HO.out.1, hnx, hcv]
      rw [← HA.out, show N - i = (N - (i + 1)) + 1 by have := Hlt.out; omega, lSums, if_neg (by rw [HO.out.1]; exact ho0), hoth, List.append_assoc])
    have x1 := HB9.out.x1
    have Ed : Ext W9 W9.drew := Below.drew (Ext.refl _)
    clear ho0 htz hnx hnxl hO9 hOt9 hobl hoc hcv hTz
    go_upto_region 7 with fail
    go_wp2_with fail
    refine HTz.out.mono ?_
    rintro e w10 ⟨rfl, rfl⟩
    go_upto_region 8 with fail
    refine wp_region_K 15 (fun w' => w'.cell? ⟨Bd, 1, none⟩ = some (.slice a8 (LL + 1) c8) ∧ w'.cell? ⟨ob, oo + nx, none⟩ = some (.int .i64 cv)) (by kernel_rfl) ?_
    show anyK _ _ _ _ _ _ 16 #[false, false, false, false, false, false, false, false, false, false, false, false, false, false, false, false] _ _
    have hHeld : w10.drew.cell? ⟨Bd, 1, none⟩ = some (.slice a8 (LL + 1) c8) ∧ w10.drew.cell? ⟨ob, oo + nx, none⟩ = some (.int .i64 cv) := ⟨cell_ext x1 Ed, cell_ext e9 Ed⟩
    refine anyK_take (i := 0) (v := ?_) rfl (by kernel_rfl) (by kernel_rfl) (by kernel_rfl) (N := 16) (by kernel_rfl) (by kernel_rfl) (by kernel_rfl) (fun _ _ _ h => h) (Or.inl ⟨by rfl, ?_⟩) hHeld ?_
    rotate_left 1
    · intro w hSw
      go_simp
      try with_reducible rfl
    show anyK _ _ _ _ _ _ _ _ (Act.put _ (some 46) _) _
    simp only [Act.put, List.setIfInBounds_toArray, List.set_cons_zero, List.set_cons_succ]
    refine anyK_take (i := 1) (v := ?_) rfl (by kernel_rfl) (by kernel_rfl) (by kernel_rfl) (N := 16) (by kernel_rfl) (by kernel_rfl) (by kernel_rfl) (fun _ _ _ h => h) (Or.inl ⟨by rfl, ?_⟩) hHeld ?_
    rotate_left 1
    · intro w hSw
      go_simp
      try with_reducible rfl
    show anyK _ _ _ _ _ _ _ _ (Act.put _ (some 47) _) _
    simp only [Act.put, List.setIfInBounds_toArray, List.set_cons_zero, List.set_cons_succ]
    refine anyK_take (i := 2) (v := ?_) rfl (by kernel_rfl) (by kernel_rfl) (by kernel_rfl) (N := 16) (by kernel_rfl) (by kernel_rfl) (by kernel_rfl) (fun _ _ _ h => h) (Or.inl ⟨by rfl, ?_⟩) hHeld ?_
    rotate_left 1
    · intro w hSw
      go_simp
      try with_reducible rfl
    show anyK _ _ _ _ _ _ _ _ (Act.put _ (some 48) _) _
    simp only [Act.put, List.setIfInBounds_toArray, List.set_cons_zero, List.set_cons_succ]
    refine anyK_take (i := 3) (v := ?_) rfl (by kernel_rfl) (by kernel_rfl) (by kernel_rfl) (N := 16) (by kernel_rfl) (by kernel_rfl) (by kernel_rfl) (fun _ _ _ h => h) (Or.inl ⟨by rfl, ?_⟩) hHeld ?_
    rotate_left 1
    · intro w hSw
      go_simp
      try with_reducible rfl
    show anyK _ _ _ _ _ _ _ _ (Act.put _ (some 49) _) _
    simp only [Act.put, List.setIfInBounds_toArray, List.set_cons_zero, List.set_cons_succ]
    refine anyK_take (i := 4) (v := ?_) rfl (by kernel_rfl) (by kernel_rfl) (by kernel_rfl) (N := 16) (by kernel_rfl) (by kernel_rfl) (by kernel_rfl) (fun _ _ _ h => h) (Or.inl ⟨by rfl, ?_⟩) hHeld ?_
    rotate_left 1
    · intro w hSw
      go_simp
      try with_reducible rfl
    show anyK _ _ _ _ _ _ _ _ (Act.put _ (some 50) _) _
    simp only [Act.put, List.setIfInBounds_toArray, List.set_cons_zero, List.set_cons_succ]
    refine anyK_take (i := 5) (v := ?_) rfl (by kernel_rfl) (by kernel_rfl) (by kernel_rfl) (N := 16) (by kernel_rfl) (by kernel_rfl) (by kernel_rfl) (fun _ _ _ h => h) (Or.inl ⟨by rfl, ?_⟩) hHeld ?_
    rotate_left 1
    · intro w hSw
      go_simp
      try with_reducible rfl
    show anyK _ _ _ _ _ _ _ _ (Act.put _ (some 51) _) _
    simp only [Act.put, List.setIfInBounds_toArray, List.set_cons_zero, List.set_cons_succ]
    refine anyK_take (i := 6) (v := ?_) rfl (by kernel_rfl) (by kernel_rfl) (by kernel_rfl) (N := 16) (by kernel_rfl) (by kernel_rfl) (by kernel_rfl) (fun _ _ _ h => h) (Or.inl ⟨by rfl, ?_⟩) hHeld ?_
    rotate_left 1
    · intro w hSw
      go_simp
      try with_reducible rfl
    show anyK _ _ _ _ _ _ _ _ (Act.put _ (some 52) _) _
    simp only [Act.put, List.setIfInBounds_toArray, List.set_cons_zero, List.set_cons_succ]
    refine anyK_take (i := 7) (v := ?_) rfl (by kernel_rfl) (by kernel_rfl) (by kernel_rfl) (N := 16) (by kernel_rfl) (by kernel_rfl) (by kernel_rfl) (fun _ _ _ h => h) (Or.inl ⟨by rfl, ?_⟩) hHeld ?_
    rotate_left 1
    · intro w hSw
      go_simp
      try with_reducible rfl
    show anyK _ _ _ _ _ _ _ _ (Act.put _ (some 53) _) _
    simp only [Act.put, List.setIfInBounds_toArray, List.set_cons_zero, List.set_cons_succ]
    refine anyK_take (i := 8) (v := ?_) rfl (by kernel_rfl) (by kernel_rfl) (by kernel_rfl) (N := 16) (by kernel_rfl) (by kernel_rfl) (by kernel_rfl) (fun _ _ _ h => h) (Or.inl ⟨by rfl, ?_⟩) hHeld ?_
    rotate_left 1
    · intro w hSw
      go_simp
      try with_reducible rfl
    show anyK _ _ _ _ _ _ _ _ (Act.put _ (some 54) _) _
    simp only [Act.put, List.setIfInBounds_toArray, List.set_cons_zero, List.set_cons_succ]
    refine anyK_take (i := 9) (v := ?_) rfl (by kernel_rfl) (by kernel_rfl) (by kernel_rfl) (N := 16) (by kernel_rfl) (by kernel_rfl) (by kernel_rfl) (fun _ _ _ h => h) (Or.inl ⟨by rfl, ?_⟩) hHeld ?_
    rotate_left 1
    · intro w hSw
      go_simp
      try with_reducible rfl
    show anyK _ _ _ _ _ _ _ _ (Act.put _ (some 55) _) _
    simp only [Act.put, List.setIfInBounds_toArray, List.set_cons_zero, List.set_cons_succ]
    clear hHeld
    refine anyK_one (i := 10) (by kernel_rfl) rfl (fun Kk hKk => ?_)
    go_simp
    (go_at_call 67; refine (flip_any q cv w10.drew).mono ?_; rintro e w11 ⟨fb, rfl, O11, hx11⟩)
    have E11 := Ed.trans hx11
    go_wp2_with fail
    refine hKk.out _ _ (fun _ => ⟨cell_ext x1 E11, cell_ext e9 E11⟩) ?_
    clear hKk Kk
    simp only [List.setIfInBounds_toArray, List.set_cons_zero, List.set_cons_succ]
    have E12 : Ext w10 (w11.alloc (.cells #[.int .i64 2, .int .i64 0, .slice (some ⟨fb, 0, none⟩) 1 1, .int .i64 q, .int .i64 0, .slice none 0 0] 51)) := E11.trans (ext_al _ _)
    refine anyK_one (i := 11) (by kernel_rfl) rfl (fun Kk hKk => ?_)
    refine stepK_buildO rfl _ rfl 2 0 (some ⟨fb, 0, none⟩) 1 1 q 0 none 0 0 rfl ?_
    refine hKk.out _ _ (fun _ => ⟨cell_ext x1 E12, cell_ext e9 E12⟩) ?_
    clear hKk Kk
    show anyK _ _ _ _ _ _ _ _ (Act.put _ (some 57) _) _
    simp only [Act.put, List.setIfInBounds_toArray, List.set_cons_zero, List.set_cons_succ]
    have B12 := HB9.out.ext' E12
    have O12 := O11.ext (ext_al w11 (.cells #[.int .i64 2, .int .i64 0, .slice (some ⟨fb, 0, none⟩) 1 1, .int .i64 q, .int .i64 0, .slice none 0 0] 51))
    obtain ⟨a13, c13, w13, r13, k13, m13, B13, M13⟩ := bd_append B12 22 (a := some ⟨w11.heap.size, 0, none⟩) (n := 1) (c := 1) (gs := [lFlip q cv]) rfl (fun e => by cases e) _ rfl (fun ad e => by cases e; exact new_op w11 _ _ _ _ _ _ _ _ _ _ _) (one_op _ _ _ _ _ _ _ _ _ _) (RowL.one O12) (by have := HAl.out; simp only [List.length_append, List.length_cons, List.length_nil]; omega)
    have hL1 : (ops ++ A ++ [lTurn q ki cnd]).length = LL + 1 := by rw [List.length_append, HLL.out]; rfl
    rw [hL1] at r13 B13 M13
    have y13 : w13.cell? ⟨Bd, 1, none⟩ = some (.slice a8 (LL + 1) c8) := (World.cell?_of_block (a := ⟨Bd, 1, none⟩) k13).trans (cell_ext x1 E12)
    have f13 : w13.frozen? ⟨Bd, 1, none⟩ = false := (World.frozen?_of_block (a := ⟨Bd, 1, none⟩) k13).trans (B12.f 1)
    have g13 : w13.cell? ⟨ob, oo + nx, none⟩ = some (.int .i64 cv) := by
      obtain ⟨hq1, _⟩ := HB.out.list (HM9.out.trans ((Mv.of_ext E12).trans m13)) HO.out HOt.out
      obtain ⟨ob', oo', ea, _, hq2⟩ := hq1.2.resolve_left (by omega)
      cases ea
      have := hq2 nx (by omega)
      rw [Hcv.out] at this
      exact this
    refine anyK_one (i := 12) (by kernel_rfl) rfl (fun Kk hKk => ?_)
    refine stepK_append rfl _ _ 22 rfl (.slice a8 (LL + 1) c8) (.slice (some ⟨w11.heap.size, 0, none⟩) 1 1) _ rfl rfl r13 ?_
    refine hKk.out _ _ (fun _ => ⟨y13, g13⟩) ?_
    clear hKk Kk
    show anyK _ _ _ _ _ _ _ _ (Act.put _ (some 58) _) _
    simp only [Act.put, List.setIfInBounds_toArray, List.set_cons_zero, List.set_cons_succ]
    have hHeld := And.intro y13 g13
    refine anyK_take (i := 13) (v := ?_) rfl (by kernel_rfl) (by kernel_rfl) (by kernel_rfl) (N := 16) (by kernel_rfl) (by kernel_rfl) (by kernel_rfl) (fun _ _ _ h => h) (Or.inl ⟨by rfl, ?_⟩) hHeld ?_
    rotate_left 1
    · intro w hSw
      go_simp
      try with_reducible rfl
    show anyK _ _ _ _ _ _ _ _ (Act.put _ (some 59) _) _
    simp only [Act.put, List.setIfInBounds_toArray, List.set_cons_zero, List.set_cons_succ]
    refine anyK_take (i := 14) (v := ?_) rfl (by kernel_rfl) (by kernel_rfl) (by kernel_rfl) (N := 16) (by kernel_rfl) (by kernel_rfl) (by kernel_rfl) (fun _ _ _ h => h) (Or.inl ⟨by rfl, ?_⟩) hHeld ?_
    rotate_left 1
    · intro w hSw
      go_simp
      try with_reducible rfl
    show anyK _ _ _ _ _ _ _ _ (Act.put _ (some 60) _) _
    simp only [Act.put, List.setIfInBounds_toArray, List.set_cons_zero, List.set_cons_succ]
    clear hHeld
    refine anyK_one (i := 15) (by kernel_rfl) rfl (fun Kk hKk => ?_)
    refine stepK_store rfl rfl _ _ rfl Bd 1 a13 (LL + 1 + 1) c13 (.slice a8 (LL + 1) c8) rfl rfl y13 f13 ?_
    refine hKk.out _ _ (fun h => Bool.noConfusion (show true = false from h)) ?_
    clear hKk Kk
    simp only [List.setIfInBounds_toArray, List.set_cons_zero, List.set_cons_succ]
    refine anyK_done (by kernel_rfl) ?_ _
    have HM14 := Lib.hid ((HM9.out.trans (Mv.of_ext E12)).trans M13)
    have HB14 := Lib.hid B13
    clear B12 O12 r13 k13 m13 B13 M13 y13 f13 g13 E12 E11 hx11 O11 Ed x1 e9 hL1
    generalize w13.setCell ⟨Bd, 1, none⟩ (.slice a13 (LL + 1 + 1) c13) = W14 at *
    go_wp2_with fail
    go_roundg (N - (i + 1))
    case measure => have := Hkk.out; have := Hlt.out; omega
    case rel => exact ⟨i + 1, -ki, _, A ++ [lTurn q ki cnd, lFlip q cv], by rw [Hip.out], rfl, Hlt.out, rfl, by have := Hki.out; omega, HM14.out, by
      have := HB14.out
      simp only [List.append_assoc, List.cons_append, List.nil_append] at this ⊢
      exact this, Hst.out⟩
end Go.Proofs.YthgmlhddanbbpaaDoor
namespace Go.Proofs.YthgmlhddanbbpaaDoor
open Go.RowKit

theorem lAll_mono (qs cnd : List Int) (part : Int) {i : Nat} : ∀ {j : Nat}, i ≤ j → (lAll qs cnd part i).length ≤ (lAll qs cnd part j).length
  | 0, h => by rw [show i = 0 by omega]; exact Nat.le_refl _
  | j + 1, h => by
    by_cases e : i = j + 1
    · rw [e]; exact Nat.le_refl _
    · have := lAll_mono qs cnd part (i := i) (j := j) (by omega)
      rw [lAll, List.length_append]
      omega
theorem IntsAt.pre {w : World} {b o n : Nat} {l : List Int} (h : IntsAt w (some ⟨b, o, none⟩) n l) {i : Nat} (hi : i ≤ n) : IntsAt w (some ⟨b, o, none⟩) i (l.take i) := by
  refine ⟨by rw [List.length_take, h.1]; omega, ?_⟩
  by_cases e : i = 0
  · exact Or.inl e
  · obtain ⟨b', o', e2, hb, hc⟩ := h.2.resolve_left (by omega)
    cases e2
    refine Or.inr ⟨b, o, rfl, hb, fun t ht => ?_⟩
    rw [hc t (by omega), List.getD_eq_getElem?_getD, List.getD_eq_getElem?_getD, List.getElem?_take, if_pos ht]

set_option maxRecDepth 100000 in
set_option maxHeartbeats 2000000 in
theorem turnWhereAll_any (w0 w : World) (Bd : Nat) (sp : Int) (v : Value) (ops : List Gop) (k : Int) (qa : Option Addr) (qn qc : Nat) (qs : List Int) (ca : Option Addr) (cn cc : Nat) (cnd : List Int) (hB : BdA w0 w Bd sp v ops) (hQ : IntsAt w qa qn qs) (hQt : TyI w qa) (hC : IntsAt w0 ca cn cnd) (hqn : 1 ≤ qn ∧ qn ≤ 12) (hqc : qn ≤ qc) (hqc2 : qc ≤ 9223372036854775807) (hcn : cn ≤ 24) (hk : 0 ≤ k ∧ k < 16) (hbr : BruL w0)
    (hl : ops.length + (lAll qs cnd (k / 2 ^ (qn - 1)) qn).length ≤ 900000) :
    Apps w0 Bd sp 37 #[.pointer (some ⟨Bd, 0, none⟩), .slice qa qn qc, .int .i64 k, .slice ca cn cc] w v ops (lAll qs cnd (k / 2 ^ (qn - 1)) qn) := by
  unfold Apps
  obtain ⟨m, hm⟩ : ∃ m, qn - 1 = m := ⟨_, rfl⟩
  have wm : IntKind.i64.wrap ((qn : Int) - 1) = (m : Int) := by rw [IntKind.wrap_i64]; omega
  have hmm : min m 64 = m := by omega
  have m0 : (0 : Int) ≤ (m : Int) := by omega
  have hp := div_range hk m
  rw [hm] at hl ⊢
  obtain ⟨part, hpart⟩ : ∃ part, k / 2 ^ m = part := ⟨_, rfl⟩
  rw [hpart] at hl hp ⊢
  obtain ⟨qb, qo, rfl, _, _⟩ := hQ.2.resolve_left (by omega)
  have HB := Lib.hid hB; have HQ := Lib.hid hQ; have HQt := Lib.hid hQt; have Hqn := Lib.hid hqn; have Hcn := Lib.hid hcn; have Hp := Lib.hid hp; have Hbr := Lib.hid hbr; have Hl := Lib.hid hl
  have Hsu := Lib.hid (fun (i : Nat) (wx : World) (vx : Value) (hi : i < qn) (hM : Mv Bd v vx w wx) (hBx : BdA w0 wx Bd sp vx (ops ++ lAll qs cnd part i)) => turnSums_any w0 wx Bd sp vx (ops ++ lAll qs cnd part i) (qs.getD i 0) part (some ⟨qb, qo, none⟩) i qc (qs.take i) ca cn cc cnd hBx ((hB.list hM hQ hQt).1.pre (by omega)) (hB.list hM hQ hQt).2 hC (by omega) hcn (by omega) hbr (by
    have h1 := lAll_mono qs cnd part (i := i + 1) (j := qn) (by omega)
    rw [lAll, List.length_append] at h1
    rw [List.length_append]
    omega))
  have Hqc := Lib.hid hqc
  clear hB hQ hQt hC hqn hcn hp hbr hl hk hm hqc
  go_enter Tryd.func37, Tryd.ntmps37
  go_wp2_with fail
  try rw [hpart]
  clear hpart hmm wm m0
  go_loopg [9, 10, 18] qn (fun kk _ _ s18 wr => ∃ (i : Nat) (vx : Value), s18 = .int .i64 (i : Int) ∧ i ≤ qn ∧ qn - i = kk ∧ Mv Bd v vx w wr ∧ BdA w0 wr Bd sp vx (ops ++ lAll qs cnd part i))
  case atStart => exact ⟨0, v, rfl, Nat.zero_le _, rfl, Mv.of_ext (Ext.refl _), by show BdA w0 w Bd sp v (ops ++ []); rw [List.append_nil]; exact HB.out⟩
  case round =>
    obtain ⟨i, vx, rfl, hi, hkk, hM, hBx⟩ := hrel
    have HM := Lib.hid hM; have HBx := Lib.hid hBx; have Hkk := Lib.hid hkk
    by_cases hin : i = qn
    · have q1 : ¬ (i : Int) < (qn : Int) := by omega
      have Hend := Lib.hid (show ∃ v', Mv Bd v v' w wr ∧ BdA w0 wr Bd sp v' (ops ++ lAll qs cnd part qn) from ⟨vx, HM.out, by rw [← hin]; exact HBx.out⟩)
      clear hin hi hkk hM hBx
      go_wp2_with fail
      go_end0
      exact ⟨rfl, Hend.out⟩
    have hlt : i < qn := by omega
    have q1 : (i : Int) < (qn : Int) := by omega
    have q0 : (0 : Int) ≤ (i : Int) := by omega
    have q3 : (i : Int) ≤ (qc : Int) := by have := Hqc.out; omega
    have q4 : i ≤ qc := by have := Hqc.out; omega
    have wk : IntKind.i64.wrap ((i : Int) + 1) = ((i + 1 : Nat) : Int) := by rw [IntKind.wrap_i64]; have := Hqn.out; omega
    have hQ1 := (HB.out.list HM.out HQ.out HQt.out).1
    obtain ⟨qb', qo', ea, _, hc⟩ := hQ1.2.resolve_left (by omega)
    cases ea
    have e0 := hc i hlt
    obtain ⟨qv, hqv⟩ : ∃ qv, qs.getD i 0 = qv := ⟨_, rfl⟩
    have HT := Lib.hid (Hsu.out i wr vx hlt HM.out HBx.out)
    rw [hqv] at e0 HT
    unfold Apps at HT
    have Hst := Lib.hid (show lAll qs cnd part (i + 1) = lAll qs cnd part i ++ lSums qv (qs.take i) cnd (2 ^ i) 0 part by rw [lAll, hqv])
    have Hlt := Lib.hid hlt
    clear hin hi hkk hM hBx hlt hQ1 hc hqv
    go_wp2_with fail
    refine HT.out.mono ?_
    rintro e w2 ⟨rfl, v2, hM2, hB2⟩
    have HM2 := Lib.hid (HM.out.trans hM2); have HB2 := Lib.hid (show BdA w0 w2 Bd sp v2 (ops ++ lAll qs cnd part (i + 1)) by rw [Hst.out, ← List.append_assoc]; exact hB2)
    clear hM2 hB2 e0 HT
    go_wp2_with fail
    go_roundg (qn - (i + 1))
    case measure => have := Hkk.out; have := Hlt.out; omega
    case rel => exact ⟨i + 1, v2, rfl, Hlt.out, rfl, HM2.out, HB2.out⟩
end Go.Proofs.YthgmlhddanbbpaaDoor
namespace Go.Proofs.YthgmlhddanbbpaaDoor
open Go.RowKit

/-- A block that is neither the builder's nor its row's. -/
structure Aw (Bd : Nat) (v : Value) (w : World) (k : Nat) (o : Obj) : Prop where
  row : w.heap[k]? = some o
  ne : k ≠ Bd
  nv : v.ownBlock ≠ some k
section
variable {Bd k : Nat} {v v' : Value} {w w' : World} {o : Obj}
theorem Aw.lt (h : Aw Bd v w k o) : k < w.heap.size := (Array.getElem?_eq_some_iff.1 h.row).1
theorem Aw.mv (h : Aw Bd v w k o) (m : Mv Bd v v' w w') : Aw Bd v' w' k o := ⟨(m.block k h.lt h.ne h.nv).trans h.row, h.ne, fun e => by
  rcases m.own k e with e | e
  · exact h.nv e
  · have := h.lt; omega⟩
theorem Aw.ext (h : Aw Bd v w k o) (m : Ext w w') : Aw Bd v w' k o := h.mv (Mv.of_ext m)
/-- A new block stands aside. -/
theorem Aw.new {w0 : World} {sp : Int} {ops : List Gop} (h : BdA w0 w Bd sp v ops) (hk : w.heap.size ≤ k) (hr : w'.heap[k]? = some o) : Aw Bd v w' k o := ⟨hr, by have := h.lt; omega, fun e => by
  have := (own_lt h.ops.rows.choose_spec.1 k e).2
  omega⟩
end
/-- The cells of an operation. -/
abbrev opC (kd k : Int) (a1 : Option Addr) (n1 c1 : Nat) (q bt : Int) (a2 : Option Addr) (n2 c2 : Nat) : Obj := .cells #[.int .i64 kd, .int .i64 k, .slice a1 n1 c1, .int .i64 q, .int .i64 bt, .slice a2 n2 c2] 51 (0, 0)
theorem Aw.bx {Bd OB : Nat} {v : Value} {w : World} {kd k : Int} {a1 : Option Addr} {n1 c1 : Nat} {q bt : Int} {a2 : Option Addr} {n2 c2 : Nat} (h : Aw Bd v w OB (opC kd k a1 n1 c1 q bt a2 n2 c2)) : OpBx w OB kd k a1 n1 c1 q bt a2 n2 c2 := ⟨h.row⟩
/-- A variable of one cell. -/
theorem Aw.x0 {Bd k : Nat} {v : Value} {w : World} {u : Value} {T : TypeId} (h : Aw Bd v w k (.cells #[u] T (0, 0))) : w.cell? ⟨k, 0, none⟩ = some u := by rw [cell_of_row w k 0 _ _ (0, 0) h.row]; rfl
set_option maxRecDepth 100000 in
set_option maxHeartbeats 2000000 in
theorem body2_any (w0 w : World) (Bd : Nat) (sp : Int) (v : Value) (ops : List Gop) (la : Option Addr) (ln lc : Nat) (left : List Int) (PB OB : Nat) (tP : TypeId) (kd k : Int) (a1 : Option Addr) (n1 c1 : Nat) (q bt : Int) (a2 : Option Addr) (n2 c2 : Nat) (cnd : List Int) (hB : BdA w0 w Bd sp v ops) (hP : Aw Bd v w PB (.cells #[.pointer (some ⟨Bd, 0, none⟩)] tP (0, 0))) (hO : Aw Bd v w OB (opC kd k a1 n1 c1 q bt a2 n2 c2))
    (hL : IntsAt w la ln left) (hLt : TyI w la) (hln : 1 ≤ ln ∧ ln ≤ 12) (hlc : ln ≤ lc) (hlc2 : lc ≤ 9223372036854775807) (hC : IntsAt w0 a2 n2 cnd) (hcn : n2 ≤ 24) (hk : 0 ≤ k ∧ k < 16) (hbr : BruL w0) (hl : ops.length ≤ 200000) :
    Apps w0 Bd sp 36 #[.slice la ln lc, .pointer (some ⟨PB, 0, none⟩), .pointer (some ⟨OB, 0, none⟩)] w v ops (lBody (if kd = 2 ∨ kd = 3 then 8 else k) cnd left) := by
  unfold Apps
  obtain ⟨kk, hkk⟩ : ∃ x : Int, (if kd = 2 ∨ kd = 3 then 8 else k) = x := ⟨_, rfl⟩
  have hk16 : 0 ≤ kk ∧ kk < 16 := by rw [← hkk]; split <;> omega
  rw [hkk]
  have HA := Lib.hid (fun wx => angle_any kd k a1 n1 c1 q bt a2 n2 c2 wx)
  rw [hkk] at HA
  have HT := Lib.hid (fun (wx : World) (hx : Ext w wx) => turnWhereAll_any w0 wx Bd sp v ops kk la ln lc left a2 n2 c2 cnd (hB.ext' hx) (hL.ext hx) (hLt.ext hx) hC hln hlc hlc2 hcn hk16 hbr (by
    have h1 := (len_all left cnd (kk / 2 ^ (ln - 1)) ln (by rw [hL.1]; exact Nat.le_refl _)).1
    have h2 : 2 ^ ln ≤ 2 ^ 12 := Nat.pow_le_pow_right (by decide) hln.2
    have h3 : (2 : Nat) ^ 12 = 4096 := by decide
    omega))
  have Hlb := Lib.hid (show lBody kk cnd left = lAll left cnd (kk / 2 ^ (ln - 1)) ln by unfold lBody; rw [hL.1])
  rw [Hlb.out]
  have p0 := hP.x0
  have d0 := hO.bx.x0; have d1 := hO.bx.x1; have d2 := hO.bx.x2; have d3 := hO.bx.x3; have d4 := hO.bx.x4; have d5 := hO.bx.x5
  clear hkk hk16 hB hP hO hL hLt hln hlc hlc2 hC hcn hk hbr hl
  go_enter Tryd.func36, Tryd.ntmps36
  have Ed : Ext w w.drew := Below.drew (Ext.refl _)
  refine wp_region_K 6 (fun w' => w'.cell? ⟨PB, 0, none⟩ = some (.pointer (some ⟨Bd, 0, none⟩)) ∧ w'.cell? ⟨OB, 0, none⟩ = some (.int .i64 kd) ∧ w'.cell? ⟨OB, 1, none⟩ = some (.int .i64 k) ∧ w'.cell? ⟨OB, 2, none⟩ = some (.slice a1 n1 c1) ∧ w'.cell? ⟨OB, 3, none⟩ = some (.int .i64 q) ∧ w'.cell? ⟨OB, 4, none⟩ = some (.int .i64 bt) ∧ w'.cell? ⟨OB, 5, none⟩ = some (.slice a2 n2 c2)) (by kernel_rfl) ?_
  show anyK _ _ _ _ _ _ 7 #[false, false, false, false, false, false, false] _ _
  have hHeld : w.drew.cell? ⟨PB, 0, none⟩ = some (.pointer (some ⟨Bd, 0, none⟩)) ∧ w.drew.cell? ⟨OB, 0, none⟩ = some (.int .i64 kd) ∧ w.drew.cell? ⟨OB, 1, none⟩ = some (.int .i64 k) ∧ w.drew.cell? ⟨OB, 2, none⟩ = some (.slice a1 n1 c1) ∧ w.drew.cell? ⟨OB, 3, none⟩ = some (.int .i64 q) ∧ w.drew.cell? ⟨OB, 4, none⟩ = some (.int .i64 bt) ∧ w.drew.cell? ⟨OB, 5, none⟩ = some (.slice a2 n2 c2) := ⟨cell_ext p0 Ed, cell_ext d0 Ed, cell_ext d1 Ed, cell_ext d2 Ed, cell_ext d3 Ed, cell_ext d4 Ed, cell_ext d5 Ed⟩
  refine anyK_take (i := 0) (v := ?_) rfl (by kernel_rfl) (by kernel_rfl) (by kernel_rfl) (N := 7) (by kernel_rfl) (by kernel_rfl) (by kernel_rfl) (fun _ _ _ h => h) (Or.inl ⟨by rfl, ?_⟩) hHeld ?_
  rotate_left 1
  · intro w hSw
    go_simp
    try with_reducible rfl
  show anyK _ _ _ _ _ _ _ _ (Act.put _ (some 4) _) _
  simp only [Act.put, List.setIfInBounds_toArray, List.set_cons_zero, List.set_cons_succ]
  refine anyK_take (i := 1) (v := ?_) rfl (by kernel_rfl) (by kernel_rfl) (by kernel_rfl) (N := 7) (by kernel_rfl) (by kernel_rfl) (by kernel_rfl) (fun _ _ _ h => h) (Or.inl ⟨by rfl, ?_⟩) hHeld ?_
  rotate_left 1
  · intro w hSw
    go_simp
    try with_reducible rfl
  show anyK _ _ _ _ _ _ _ _ (Act.put _ (some 5) _) _
  simp only [Act.put, List.setIfInBounds_toArray, List.set_cons_zero, List.set_cons_succ]
  refine anyK_take (i := 2) (v := ?_) rfl (by kernel_rfl) (by kernel_rfl) (by kernel_rfl) (N := 7) (by kernel_rfl) (by kernel_rfl) (by kernel_rfl) (fun _ _ _ h => h) (Or.inl ⟨by rfl, ?_⟩) hHeld ?_
  rotate_left 1
  · intro w hSw
    go_simp
    try with_reducible rfl
  show anyK _ _ _ _ _ _ _ _ (Act.put _ (some 6) _) _
  simp only [Act.put, List.setIfInBounds_toArray, List.set_cons_zero, List.set_cons_succ]
  refine anyK_take (i := 4) (v := ?_) rfl (by kernel_rfl) (by kernel_rfl) (by kernel_rfl) (N := 7) (by kernel_rfl) (by kernel_rfl) (by kernel_rfl) (fun _ _ _ h => h) (Or.inl ⟨by rfl, ?_⟩) hHeld ?_
  rotate_left 1
  · intro w hSw
    go_simp
    try with_reducible rfl
  show anyK _ _ _ _ _ _ _ _ (Act.put _ (some 8) _) _
  simp only [Act.put, List.setIfInBounds_toArray, List.set_cons_zero, List.set_cons_succ]
  refine anyK_take (i := 5) (v := ?_) rfl (by kernel_rfl) (by kernel_rfl) (by kernel_rfl) (N := 7) (by kernel_rfl) (by kernel_rfl) (by kernel_rfl) (fun _ _ _ h => h) (Or.inl ⟨by rfl, ?_⟩) hHeld ?_
  rotate_left 1
  · intro w hSw
    go_simp
    try with_reducible rfl
  show anyK _ _ _ _ _ _ _ _ (Act.put _ (some 9) _) _
  simp only [Act.put, List.setIfInBounds_toArray, List.set_cons_zero, List.set_cons_succ]
  clear hHeld
  refine anyK_one (i := 3) (by kernel_rfl) rfl (fun Kk hKk => ?_)
  go_simp
  (go_at_call 30; refine (HA.out w.drew).mono ?_; rintro e w1 ⟨rfl, hx1⟩)
  have E1 := Ed.trans hx1
  go_wp2_with fail
  refine hKk.out _ _ (fun _ => ⟨cell_ext p0 E1, cell_ext d0 E1, cell_ext d1 E1, cell_ext d2 E1, cell_ext d3 E1, cell_ext d4 E1, cell_ext d5 E1⟩) ?_
  clear hKk Kk
  simp only [List.setIfInBounds_toArray, List.set_cons_zero, List.set_cons_succ]
  have HT1 := Lib.hid (HT.out w1 E1)
  unfold Apps at HT1
  refine anyK_one (i := 6) (by kernel_rfl) rfl (fun Kk hKk => ?_)
  go_simp
  (go_at_call 37; refine HT1.out.mono ?_; rintro e w2 ⟨rfl, v2, hM2, hB2⟩)
  go_wp2_with fail
  refine hKk.out _ _ (fun h => Bool.noConfusion (show true = false from h)) ?_
  clear hKk Kk
  simp only [List.setIfInBounds_toArray, List.set_cons_zero, List.set_cons_succ]
  refine anyK_done (by kernel_rfl) ?_ _
  have HEnd := Lib.hid (show ∃ v', Mv Bd v v' w w2 ∧ BdA w0 w2 Bd sp v' (ops ++ lAll left cnd (kk / 2 ^ (ln - 1)) ln) from ⟨v2, (Mv.of_ext E1).trans hM2, hB2⟩)
  clear hM2 hB2 E1 hx1 Ed HT1 p0 d0 d1 d2 d3 d4 d5
  go_wp2_with fail
  go_end0
  exact ⟨rfl, HEnd.out⟩
end Go.Proofs.YthgmlhddanbbpaaDoor
namespace Go.Proofs.YthgmlhddanbbpaaDoor
open Go.RowKit

set_option maxHeartbeats 400000 in
/-- '[]int{x}' in a drawn region. -/
theorem stepK_buildI {ops : Array Oper} {o : Oper} {a : Act} {K : Act → World → Prop} {Q : Exit → Act → World → Prop} {E : Prop} {w : World} (hgd : o.guard = none) (x : Operand) (ho : o.op = .buildSlice 25 1 #[(0, x)]) (z : Int)
    (hx : a.eval x = .int .i64 z) (h : K (a.put o.dst (.slice (some ⟨w.heap.size, 0, none⟩) 1 1)) (w.alloc (.cells #[.int .i64 z] 3))) :
    if Region.wanted o (yielded ops a.tmps) = true then Oper.wp Tryd.prog o a w K Q else E := by
  have hw : Region.wanted o (yielded ops a.tmps) = true := by simp [Region.wanted, hgd]
  rw [if_pos hw]
  obtain ⟨od, oo, ot, opp, oa, og⟩ := o
  simp only at ho
  subst ho
  have HH := Lib.hid h
  clear h
  unfold Oper.wp execOp
  simp only [hx, List.map_toArray, List.map_cons, List.map_nil]
  go_simp
  exact HH.out
set_option maxHeartbeats 400000 in
/-- '[][]int{x, y}' in a drawn region. -/
theorem stepK_buildS {ops : Array Oper} {o : Oper} {a : Act} {K : Act → World → Prop} {Q : Exit → Act → World → Prop} {E : Prop} {w : World} (hgd : o.guard = none) (x y : Operand) (ho : o.op = .buildSlice 88 2 #[(0, x), (1, y)]) (a1 : Option Addr) (n1 c1 : Nat) (a2 : Option Addr) (n2 c2 : Nat)
    (hx : a.eval x = .slice a1 n1 c1) (hy : a.eval y = .slice a2 n2 c2) (h : K (a.put o.dst (.slice (some ⟨w.heap.size, 0, none⟩) 2 2)) (w.alloc (.cells #[.slice a1 n1 c1, .slice a2 n2 c2] 25))) :
    if Region.wanted o (yielded ops a.tmps) = true then Oper.wp Tryd.prog o a w K Q else E := by
  have hw : Region.wanted o (yielded ops a.tmps) = true := by simp [Region.wanted, hgd]
  rw [if_pos hw]
  obtain ⟨od, oo, ot, opp, oa, og⟩ := o
  simp only at ho
  subst ho
  have HH := Lib.hid h
  clear h
  unfold Oper.wp execOp
  simp only [hx, hy, List.map_toArray, List.map_cons, List.map_nil]
  go_simp
  exact HH.out
theorem IntsAt.from {w : World} {b o n : Nat} {l : List Int} (h : IntsAt w (some ⟨b, o, none⟩) n l) {i : Nat} (hi : i ≤ n) : IntsAt w (some ⟨b, o + i, none⟩) (n - i) (l.drop i) := by
  refine ⟨by rw [List.length_drop, h.1], ?_⟩
  by_cases e : n - i = 0
  · exact Or.inl e
  · obtain ⟨b', o', e2, hb, hc⟩ := h.2.resolve_left (by omega)
    cases e2
    refine Or.inr ⟨b, o + i, rfl, hb, fun t ht => ?_⟩
    have := hc (i + t) (by omega)
    rw [Nat.add_assoc, this, List.getD_eq_getElem?_getD, List.getD_eq_getElem?_getD, List.getElem?_drop]
/-- The body that is handed on. -/
abbrev bdV (PB OB : Nat) : Value := .func (.func 36) #[] #[.pointer (some ⟨PB, 0, none⟩), .pointer (some ⟨OB, 0, none⟩)]
section
variable (w0 : World) (Bd : Nat) (sp : Int) (PB OB : Nat) (tP : TypeId) (kd k : Int) (a1 : Option Addr) (n1 c1 : Nat) (q bt : Int) (a2 : Option Addr) (n2 c2 : Nat) (cnd : List Int) (kk : Int)
/-- What joined does where t joins are to be made. -/
def JnS (t : Nat) : Prop :=
  ∀ (w : World) (v : Value) (ops : List Gop) (qa : Option Addr) (qn qc : Nat) (qs : List Int), BdA w0 w Bd sp v ops → Aw Bd v w PB (.cells #[.pointer (some ⟨Bd, 0, none⟩)] tP (0, 0)) → Aw Bd v w OB (opC kd k a1 n1 c1 q bt a2 n2 c2) → IntsAt w qa qn qs → TyI w qa → qn ≤ 12 → qn ≤ qc → qc ≤ 9223372036854775807 → t < qn → qs.Nodup → (∀ c ∈ qs, (0 ≤ c ∧ c < 12) ∧ (c < sp ∨ sp + t ≤ c)) → ops.length + 9 * t ≤ 100000 →
    Apps w0 Bd sp 34 #[.pointer (some ⟨Bd, 0, none⟩), .slice qa qn qc, .int .i64 (t : Int), bdV PB OB] w v ops (lJoined sp (lBody kk cnd) t qs)
end

set_option maxRecDepth 100000 in
set_option maxHeartbeats 2000000 in
theorem joined1_of (w0 : World) (Bd : Nat) (sp : Int) (PB OB : Nat) (tP : TypeId) (kd k : Int) (a1 : Option Addr) (n1 c1 : Nat) (q bt : Int) (a2 : Option Addr) (n2 c2 : Nat) (cnd : List Int) (kk : Int) (t : Nat) (ih : JnS w0 Bd sp PB OB tP kd k a1 n1 c1 q bt a2 n2 c2 cnd kk t)
    (w : World) (v : Value) (ops : List Gop) (qa : Option Addr) (qn qc : Nat) (qs : List Int) (BB QB SB TB YB : Nat) (tB tQ tS tT tY : TypeId) (hB : BdA w0 w Bd sp v ops) (hP : Aw Bd v w PB (.cells #[.pointer (some ⟨Bd, 0, none⟩)] tP (0, 0))) (hO : Aw Bd v w OB (opC kd k a1 n1 c1 q bt a2 n2 c2))
    (bB : Aw Bd v w BB (.cells #[.pointer (some ⟨Bd, 0, none⟩)] tB (0, 0))) (bQ : Aw Bd v w QB (.cells #[.slice qa qn qc] tQ (0, 0))) (bS : Aw Bd v w SB (.cells #[.int .i64 (sp + t)] tS (0, 0))) (bT : Aw Bd v w TB (.cells #[.int .i64 ((t + 1 : Nat) : Int)] tT (0, 0))) (bY : Aw Bd v w YB (.cells #[bdV PB OB] tY (0, 0)))
    (hQ : IntsAt w qa qn qs) (hQt : TyI w qa) (hq12 : qn ≤ 12) (hqc : qn ≤ qc) (hqc2 : qc ≤ 9223372036854775807) (htq : t + 1 < qn) (hnd : qs.Nodup) (hr : ∀ c ∈ qs, (0 ≤ c ∧ c < 12) ∧ (c < sp ∨ sp + ((t + 1 : Nat) : Int) ≤ c)) (hsp : 0 ≤ sp ∧ sp + ((t + 1 : Nat) : Int) ≤ 12) (hl : ops.length + 9 * t ≤ 100000) :
    Apps w0 Bd sp 55 #[.pointer (some ⟨BB, 0, none⟩), .pointer (some ⟨QB, 0, none⟩), .pointer (some ⟨SB, 0, none⟩), .pointer (some ⟨TB, 0, none⟩), .pointer (some ⟨YB, 0, none⟩)] w v ops (lJoined sp (lBody kk cnd) t (qs.drop 2 ++ [sp + t])) := by
  unfold Apps
  obtain ⟨qb, qo, rfl, _, _⟩ := hQ.2.resolve_left (by omega)
  have hlen := hQ.1
  obtain ⟨L, hL⟩ : ∃ L, qs.drop 2 ++ [sp + (t : Int)] = L := ⟨_, rfl⟩
  have hndL : L.Nodup := by
    rw [← hL, List.nodup_append]
    refine ⟨hnd.sublist (List.drop_sublist _ _), by simp, fun a ha b hb => ?_⟩
    have hb2 : b = sp + t := by simpa using hb
    have := (hr a (List.mem_of_mem_drop ha)).2
    omega
  have hrL : ∀ c ∈ L, (0 ≤ c ∧ c < 12) ∧ (c < sp ∨ sp + t ≤ c) := by
    intro c hc
    rw [← hL] at hc
    rcases List.mem_append.1 hc with hc | hc
    · have := hr c (List.mem_of_mem_drop hc)
      exact ⟨this.1, by omega⟩
    · have hb2 : c = sp + t := by simpa using hc
      omega
  rw [hL]
  obtain ⟨sv, hsv⟩ : ∃ sv, sp + (t : Int) = sv := ⟨_, rfl⟩
  rw [hsv] at hL bS
  have hIh := fun (wx : World) (hx : Ext w wx) (a : Option Addr) (m c : Nat) (hi : IntsAt wx a m L) (ht : TyI wx a) (hm : m = qn - 1) (hc : m ≤ c) (hc2 : c ≤ 9223372036854775807) => ih wx v ops a m c L (hB.ext' hx) (hP.ext hx) (hO.ext hx) hi ht (by omega) hc hc2 (by omega) hndL hrL hl
  have HI := Lib.hid hIh
  obtain ⟨of, hof⟩ : ∃ of, (qc = 2 ∧ of = qo) ∨ (¬ qc = 2 ∧ of = qo + 2) := by
    by_cases e : qc = 2
    · exact ⟨qo, Or.inl ⟨e, rfl⟩⟩
    · exact ⟨qo + 2, Or.inr ⟨e, rfl⟩⟩
  have HQd := Lib.hid (fun (wx : World) (hx : Ext w wx) => show IntsAt wx (some ⟨qb, of, none⟩) (qn - 2) (qs.drop 2) by
    have h2 := (hQ.ext hx).from (i := 2) (by omega)
    rcases hof with ⟨e1, e2⟩ | ⟨e1, e2⟩
    · exact ⟨h2.1, Or.inl (by omega)⟩
    · rw [e2]; exact h2)
  have Hof := Lib.hid hof
  clear hof
  have x0 := bB.x0; have x1 := bQ.x0; have x2 := bS.x0; have x3 := bT.x0; have x4 := bY.x0
  have t2 : (2 : Int) ≤ (qn : Int) := by omega
  have t3 : (qn : Int) ≤ (qc : Int) := by omega
  have wt : IntKind.i64.wrap (((t + 1 : Nat) : Int) - 1) = (t : Int) := by rw [IntKind.wrap_i64]; omega
  obtain ⟨m2, hm2⟩ : ∃ m2, qn - 2 = m2 := ⟨_, rfl⟩
  obtain ⟨c2', hc2'⟩ : ∃ c2', qc - 2 = c2' := ⟨_, rfl⟩
  rw [hm2] at HQd
  have Hqn2 := Lib.hid (show 2 ≤ qn by omega); have Hm2 := Lib.hid hm2; have Hlen := Lib.hid hlen; have Hq12 := Lib.hid hq12; have HL := Lib.hid hL; have Htq := Lib.hid htq; have Hqc := Lib.hid hqc; have Hqc2 := Lib.hid hqc2
  obtain ⟨T1, hT1⟩ : ∃ T1, ((t + 1 : Nat) : Int) = T1 := ⟨_, rfl⟩
  rw [hT1] at x3 wt
  clear hIh hB hP hO bB bQ bS bT bY hQ hQt hq12 hnd hr hsp hl hlen hndL hrL ih hL hsv htq hT1
  go_enter Tryd.func55, Tryd.ntmps55
  have Ed : Ext w w.drew := Below.drew (Ext.refl _)
  refine wp_region_K 10 (fun w' => w'.cell? ⟨BB, 0, none⟩ = some (.pointer (some ⟨Bd, 0, none⟩)) ∧ w'.cell? ⟨QB, 0, none⟩ = some (.slice (some ⟨qb, qo, none⟩) qn qc) ∧ w'.cell? ⟨SB, 0, none⟩ = some (.int .i64 sv) ∧ w'.cell? ⟨TB, 0, none⟩ = some (.int .i64 T1) ∧ w'.cell? ⟨YB, 0, none⟩ = some (bdV PB OB)) (by kernel_rfl) ?_
  show anyK _ _ _ _ _ _ 11 #[false, false, false, false, false, false, false, false, false, false, false] _ _
  have hHeld : w.drew.cell? ⟨BB, 0, none⟩ = some (.pointer (some ⟨Bd, 0, none⟩)) ∧ w.drew.cell? ⟨QB, 0, none⟩ = some (.slice (some ⟨qb, qo, none⟩) qn qc) ∧ w.drew.cell? ⟨SB, 0, none⟩ = some (.int .i64 sv) ∧ w.drew.cell? ⟨TB, 0, none⟩ = some (.int .i64 T1) ∧ w.drew.cell? ⟨YB, 0, none⟩ = some (bdV PB OB) := ⟨cell_ext x0 Ed, cell_ext x1 Ed, cell_ext x2 Ed, cell_ext x3 Ed, cell_ext x4 Ed⟩
  refine anyK_take (i := 0) (v := ?_) rfl (by kernel_rfl) (by kernel_rfl) (by kernel_rfl) (N := 11) (by kernel_rfl) (by kernel_rfl) (by kernel_rfl) (fun _ _ _ h => h) (Or.inl ⟨by rfl, ?_⟩) hHeld ?_
  rotate_left 1
  · intro w hSw
    go_simp
    try with_reducible rfl
  show anyK _ _ _ _ _ _ _ _ (Act.put _ (some 5) _) _
  simp only [Act.put, List.setIfInBounds_toArray, List.set_cons_zero, List.set_cons_succ]
  refine anyK_take (i := 1) (v := ?_) rfl (by kernel_rfl) (by kernel_rfl) (by kernel_rfl) (N := 11) (by kernel_rfl) (by kernel_rfl) (by kernel_rfl) (fun _ _ _ h => h) (Or.inl ⟨by rfl, ?_⟩) hHeld ?_
  rotate_left 1
  · intro w hSw
    go_simp
    try with_reducible rfl
  show anyK _ _ _ _ _ _ _ _ (Act.put _ (some 6) _) _
  simp only [Act.put, List.setIfInBounds_toArray, List.set_cons_zero, List.set_cons_succ]
  refine anyK_take (i := 2) (v := .slice (some ⟨qb, of, none⟩) m2 c2') rfl (by kernel_rfl) (by kernel_rfl) (by kernel_rfl) (N := 11) (by kernel_rfl) (by kernel_rfl) (by kernel_rfl) (fun _ _ _ h => h) (Or.inl ⟨by rfl, fun w hSw => by
    have hqn2 := Hqn2.out
    rcases Hof.out with ⟨e1, e2⟩ | ⟨e1, e2⟩
    · subst e1 e2
      go_simp
    · subst e2
      go_simp⟩) hHeld ?_
  show anyK _ _ _ _ _ _ _ _ (Act.put _ (some 7) _) _
  simp only [Act.put, List.setIfInBounds_toArray, List.set_cons_zero, List.set_cons_succ]
  refine anyK_take (i := 3) (v := ?_) rfl (by kernel_rfl) (by kernel_rfl) (by kernel_rfl) (N := 11) (by kernel_rfl) (by kernel_rfl) (by kernel_rfl) (fun _ _ _ h => h) (Or.inl ⟨by rfl, ?_⟩) hHeld ?_
  rotate_left 1
  · intro w hSw
    go_simp
    try with_reducible rfl
  show anyK _ _ _ _ _ _ _ _ (Act.put _ (some 8) _) _
  simp only [Act.put, List.setIfInBounds_toArray, List.set_cons_zero, List.set_cons_succ]
  refine anyK_take (i := 7) (v := ?_) rfl (by kernel_rfl) (by kernel_rfl) (by kernel_rfl) (N := 11) (by kernel_rfl) (by kernel_rfl) (by kernel_rfl) (fun _ _ _ h => h) (Or.inl ⟨by rfl, ?_⟩) hHeld ?_
  rotate_left 1
  · intro w hSw
    go_simp
    try with_reducible rfl
  show anyK _ _ _ _ _ _ _ _ (Act.put _ (some 12) _) _
  simp only [Act.put, List.setIfInBounds_toArray, List.set_cons_zero, List.set_cons_succ]
  refine anyK_take (i := 8) (v := ?_) rfl (by kernel_rfl) (by kernel_rfl) (by kernel_rfl) (N := 11) (by kernel_rfl) (by kernel_rfl) (by kernel_rfl) (fun _ _ _ h => h) (Or.inl ⟨by rfl, ?_⟩) hHeld ?_
  rotate_left 1
  · intro w hSw
    go_simp
    try with_reducible rfl
  show anyK _ _ _ _ _ _ _ _ (Act.put _ (some 13) _) _
  simp only [Act.put, List.setIfInBounds_toArray, List.set_cons_zero, List.set_cons_succ]
  refine anyK_take (i := 9) (v := ?_) rfl (by kernel_rfl) (by kernel_rfl) (by kernel_rfl) (N := 11) (by kernel_rfl) (by kernel_rfl) (by kernel_rfl) (fun _ _ _ h => h) (Or.inl ⟨by rfl, ?_⟩) hHeld ?_
  rotate_left 1
  · intro w hSw
    go_simp
    try with_reducible rfl
  show anyK _ _ _ _ _ _ _ _ (Act.put _ (some 14) _) _
  simp only [Act.put, List.setIfInBounds_toArray, List.set_cons_zero, List.set_cons_succ]
  clear hHeld
  have E1 : Ext w (w.drew.alloc (.cells #[.int .i64 sv] 3)) := Ed.trans (ext_al _ _)
  refine anyK_one (i := 4) (by kernel_rfl) rfl (fun Kk hKk => ?_)
  refine stepK_buildI rfl _ rfl sv rfl ?_
  refine hKk.out _ _ (fun _ => ⟨cell_ext x0 E1, cell_ext x1 E1, cell_ext x2 E1, cell_ext x3 E1, cell_ext x4 E1⟩) ?_
  clear hKk Kk
  show anyK _ _ _ _ _ _ _ _ (Act.put _ (some 9) _) _
  simp only [Act.put, List.setIfInBounds_toArray, List.set_cons_zero, List.set_cons_succ]
  obtain ⟨w1, hw1⟩ : ∃ w1, w.drew.alloc (.cells #[.int .i64 sv] 3) = w1 := ⟨_, rfl⟩
  have rI : w1.heap[w.drew.heap.size]? = some (.cells #[.int .i64 sv] 3 (0, 0)) := by rw [← hw1]; exact heap_alloc_new _ _
  rw [hw1] at E1 ⊢
  have iI : IntsAt w1 (some ⟨w.drew.heap.size, 0, none⟩) 1 [sv] := ⟨rfl, Or.inr ⟨_, 0, rfl, (Array.getElem?_eq_some_iff.1 rI).1, fun u hu => by
    have : u = 0 := by omega
    subst this
    rw [cell_of_row w1 _ (0 + 0) _ _ (0, 0) rI]; rfl⟩⟩
  obtain ⟨SS, hSS⟩ : ∃ SS, w1.heap.size = SS := ⟨_, rfl⟩
  obtain ⟨w2, hw2⟩ : ∃ w2, w1.alloc (.cells #[.slice (some ⟨qb, of, none⟩) m2 c2', .slice (some ⟨w.drew.heap.size, 0, none⟩) 1 1] 25) = w2 := ⟨_, rfl⟩
  have rS : w2.heap[SS]? = some (.cells #[.slice (some ⟨qb, of, none⟩) m2 c2', .slice (some ⟨w.drew.heap.size, 0, none⟩) 1 1] 25 (0, 0)) := by rw [← hw2, ← hSS]; exact heap_alloc_new _ _
  have E12 : Ext w1 w2 := by rw [← hw2]; exact ext_al _ _
  have E2 : Ext w w2 := E1.trans E12
  refine anyK_one (i := 5) (by kernel_rfl) rfl (fun Kk hKk => ?_)
  refine stepK_buildS rfl _ _ rfl (some ⟨qb, of, none⟩) m2 c2' (some ⟨w.drew.heap.size, 0, none⟩) 1 1 rfl rfl ?_
  rw [hw2, hSS]
  refine hKk.out _ _ (fun _ => ⟨cell_ext x0 E2, cell_ext x1 E2, cell_ext x2 E2, cell_ext x3 E2, cell_ext x4 E2⟩) ?_
  clear hKk Kk
  show anyK _ _ _ _ _ _ _ _ (Act.put _ (some 10) _) _
  simp only [Act.put, List.setIfInBounds_toArray, List.set_cons_zero, List.set_cons_succ]
  have HCo := Lib.hid (concatI_any SS (some ⟨qb, of, none⟩) m2 c2' (some ⟨w.drew.heap.size, 0, none⟩) 1 1 (qs.drop 2) [sv] w2 (HQd.out w2 E2) (iI.ext E12) (fun e => by cases e) (fun e => by cases e) (by have := Hm2.out; have := Hq12.out; omega) (by decide) (by rw [cell_of_row w2 SS 0 _ _ (0, 0) rS]; rfl) (by rw [cell_of_row w2 SS 1 _ _ (0, 0) rS]; rfl))
  clear rI iI rS hw1 hw2 hSS
  refine anyK_one (i := 6) (by kernel_rfl) rfl (fun Kk hKk => ?_)
  go_simp
  (go_at_call 35; refine HCo.out.mono ?_; rintro e w3 ⟨v3, rfl, hown3, hx3⟩)
  have E3 := E2.trans hx3
  rw [HL.out] at hown3
  obtain ⟨a3, c3, rfl, hc3, hc3', hi3, ht3⟩ := ints_of_own hown3
  go_wp2_with fail
  refine hKk.out _ _ (fun _ => ⟨cell_ext x0 E3, cell_ext x1 E3, cell_ext x2 E3, cell_ext x3 E3, cell_ext x4 E3⟩) ?_
  clear hKk Kk
  simp only [List.setIfInBounds_toArray, List.set_cons_zero, List.set_cons_succ]
  have HJ := Lib.hid (HI.out w3 E3 a3 (m2 + 1) c3 hi3 ht3 (by have := Hm2.out; have := Htq.out; omega) hc3 (by unfold maxLen at hc3'; omega))
  unfold Apps at HJ
  refine anyK_one (i := 10) (by kernel_rfl) rfl (fun Kk hKk => ?_)
  go_simp
  (go_at_call 34; refine HJ.out.mono ?_; rintro e w4 ⟨rfl, v4, hM4, hB4⟩)
  go_wp2_with fail
  refine hKk.out _ _ (fun h => Bool.noConfusion (show true = false from h)) ?_
  clear hKk Kk
  simp only [List.setIfInBounds_toArray, List.set_cons_zero, List.set_cons_succ]
  refine anyK_done (by kernel_rfl) ?_ _
  have HEnd := Lib.hid (show ∃ v', Mv Bd v v' w w4 ∧ BdA w0 w4 Bd sp v' (ops ++ lJoined sp (lBody kk cnd) t L) from ⟨v4, (Mv.of_ext E3).trans hM4, hB4⟩)
  clear hM4 hB4 E1 E2 E12 E3 hx3 hown3 hi3 ht3 hc3 hc3' Ed HJ HCo x0 x1 x2 x3 x4
  go_wp2_with fail
  go_end0
  exact ⟨rfl, HEnd.out⟩
end Go.Proofs.YthgmlhddanbbpaaDoor
