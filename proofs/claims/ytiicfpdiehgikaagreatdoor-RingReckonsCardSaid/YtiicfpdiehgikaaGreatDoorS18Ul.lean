/-
  The reference: a number mirrored. The reference: Make. The reference: a number times its mirror.
-/
import Derived.Test.YtiicfpdiehgikaaGreatDoorProg
import Derived.Test.YtiicfpdiehgikaaGreatDoorRows
import Derived.BigQuiet
import Derived.Deep.AppendLies
import Derived.Deep.Cut
import Derived.Deep.CutRange
import Derived.Deep.LoopGhost
import Derived.Deep.MidRow
import Derived.Deep.QuietTactic
import Derived.Deep.RegionHeld3
import Derived.Laws.Bits64b
import Derived.Laws.CopyOwn
import Derived.Laws.ResultCell
import Derived.Laws.Rows
import Derived.Lib.BitFns
import Derived.Lib.Hide
import Derived.Lib.ItoaNum
import Derived.Lib.Strings
import Derived.Lib.TrailingZeros
import Derived.OwnWalk
import Derived.Shelf.Bits.Mul64
import Derived.Shelf.LaysM
import Derived.Shelf.Small.Bits
import Derived.Shelf.Small.Wraps
import Derived.Shelf.Spec.BitsCarry
import Derived.Shelf.Spec.TrailingZeros
import Derived.Shelf.Strconv.Itoa0
import Derived.Shelf.Strconv.Itoa1
import Derived.Shelf.Strconv.Itoa2
import Derived.Shelf.Strconv.Itoa3
import Derived.Shelf.Strings.Builder1
import Derived.Shelf.Strings.BuilderF
import Derived.Shelf.Strings.BuilderK
import Derived.WalkKit
import Derived.WalkLawsBesides
import Derived.WalkSpells
import Derived.Test.YtiicfpdiehgikaaGreatDoorS00Mem
import Derived.Test.YtiicfpdiehgikaaGreatDoorShelf
import Derived.Test.YtiicfpdiehgikaaGreatDoorS02ShiftI
import Derived.Test.YtiicfpdiehgikaaGreatDoorS03GuessD
import Derived.Test.YtiicfpdiehgikaaGreatDoorS04IntB
import Derived.Test.YtiicfpdiehgikaaGreatDoorS05IntD
import Derived.Test.YtiicfpdiehgikaaGreatDoorS06GcB
import Derived.Test.YtiicfpdiehgikaaGreatDoorS07Rd
import Derived.Test.YtiicfpdiehgikaaGreatDoorS08Rl
import Derived.Test.YtiicfpdiehgikaaGreatDoorS09Ca
import Derived.Test.YtiicfpdiehgikaaGreatDoorS10Td
import Derived.Test.YtiicfpdiehgikaaGreatDoorS12Tq
import Derived.Test.YtiicfpdiehgikaaGreatDoorS13ZL
import Derived.Test.YtiicfpdiehgikaaGreatDoorS14Ue
import Derived.Test.YtiicfpdiehgikaaGreatDoorS15Uf
import Derived.Test.YtiicfpdiehgikaaGreatDoorS16Uh
import Derived.Test.YtiicfpdiehgikaaGreatDoorS17Un
namespace Go.Proofs.YtiicfpdiehgikaaGreatDoor
open Go.RowKit

/-- What RConj has summed. -/
def cjP (a : Int → Int) : Nat → Int → Int
  | 0 => fun _ => 0
  | n + 1 => addR (cjP a n) (mono (-(n : Int)) (a n))
theorem cjP_eight {a : Int → Int} (ha : Anti a) : cjP a 8 = cjR a := by
  funext j
  have h1 := congrFun (sum_monos ha 0) (-j)
  have h2 : ∀ (i z : Int), mono (-i) z j = mono (i + 0) z (-j) := fun i z => by unfold mono; repeat (split); all_goals omega
  have h3 : trR 0 a (-j) = cjR a j := by simp [trR, cjR]
  rw [← h3, ← h1]
  simp only [cjP, addR, sum8, ← h2]
  simp
theorem eqN_add_same (A B : Int → Int) (e : Nat) : EqN (nAdd ⟨A, e⟩ ⟨B, e⟩) ⟨addR A B, e⟩ := fun k => by
  simp only [nAdd, addR, Int.pow_add]; grind
theorem tr_mono (k z : Int) : trR k (mono 0 z) = mono k z := by
  funext j; unfold trR mono; simp
theorem ZCs.over {w : World} {v0 v1 v2 v3 v4 v5 v6 v7 v8 v9 v10 v11 v12 v13 v14 v15 v16 : Value} {f : Nat → Int} {d : Int} (h : ZCs w #[v0, v1, v2, v3, v4, v5, v6, v7, v8, v9, v10, v11, v12, v13, v14, v15, v16] f d) (e : Int) : ZCs w #[v0, v1, v2, v3, v4, v5, v6, v7, v8, v9, v10, v11, v12, v13, v14, v15, .int .i64 e] f e := by
  refine ⟨rfl, fun i hi => ?_, rfl⟩
  obtain ⟨b, a, n, c, q1, q2, q3⟩ := h.2.1 i hi
  refine ⟨b, a, n, c, ?_, ?_, q3⟩
  all_goals
    have k : i = 0 ∨ i = 1 ∨ i = 2 ∨ i = 3 ∨ i = 4 ∨ i = 5 ∨ i = 6 ∨ i = 7 := by omega
    rcases k with rfl | rfl | rfl | rfl | rfl | rfl | rfl | rfl <;> first | exact q1 | exact q2

set_option maxRecDepth 100000 in
set_option maxHeartbeats 4000000 in
theorem QConj_nm (ca : Array Value) (x : Nm) (P E : Nat) (w : World) (h : RmA w ca x P E) (hP : P + 8 * (E + 1) ≤ 400000) (hE : E ≤ 10000) :
    Calls Tryz.prog 38 #[.agg ca] w fun r w' => ∃ (cr : Array Value) (z : Nm), r = .returned (.agg cr) ∧ RmA w' cr z (P + 8 * (E + 1)) E ∧ EqN z (nCj x) ∧ Ext w w' := by
  obtain ⟨X, hX⟩ : ∃ X : Nat → Int, (fun i : Nat => x.a i) = X := ⟨_, rfl⟩
  obtain ⟨e, he⟩ : ∃ e, x.e = e := ⟨_, rfl⟩
  have hv := h.val
  rw [hX, he] at hv
  have hXa : ∀ i : Nat, X i = x.a i := fun i => by rw [← hX]
  have hdn : e ≤ E := by rw [← he]; exact h.down
  obtain ⟨H, hH⟩ : ∃ H, w.heap.size = H := ⟨_, rfl⟩
  obtain ⟨U, hU⟩ : ∃ U, ((w.alloc (.cells ca 38)).alloc (.cells zeroR 38)).alloc (.cells zeroR 38) = U := ⟨_, rfl⟩
  have E0 : Ext w U := by rw [← hU]; exact ((Ext.alloc _ _).trans (Ext.alloc _ _)).trans (Ext.alloc _ _)
  have A0 : ZVar U H X (e : Int) := by rw [← hU, ← hH]; exact (hv.box.ext (Ext.alloc _ _)).ext (Ext.alloc _ _)
  have Z0 : ZVar U (H + 1) (fun _ => 0) 0 := by
    have := ((zcs_zero (w.alloc (.cells ca 38))).box).ext (Ext.alloc _ (.cells zeroR 38))
    rw [← hU, ← hH]
    simpa using this
  have O0 : U.heap[H + 2]? = some (.cells zeroR 38 (0, 0)) := by
    have := heap_alloc_new ((w.alloc (.cells ca 38)).alloc (.cells zeroR 38)) (.cells zeroR 38)
    rw [← hU, ← hH]
    simpa using this
  have sz : ((w.alloc (.cells ca 38)).alloc (.cells zeroR 38)).heap.size = H + 2 := by rw [← hH]; simp
  have Hst := Lib.hid (show (∃ (co : Array Value) (y : Nm), U.heap[H + 2]? = some (.cells co 38 (0, 0)) ∧ RmW U co y (P + 0 * (E + 1)) E ∧ EqN y ⟨cjP x.a (0), e⟩) ∧ ZVar U H X (e : Int) ∧ ZVar U (H + 1) (fun _ => 0) 0 ∧ Ext w U from
    ⟨⟨zeroR, ⟨fun _ => 0, 0⟩, O0, ⟨anti_zero, fun k => Nat.pow_pos (by decide), Nat.zero_le _, zcs_zero U⟩, fun k => by simp [cjP]⟩, A0, Z0, E0⟩)
  have HU := Lib.hid hU; have HH := Lib.hid hH; have Hsz := Lib.hid sz; have HP := Lib.hid hP; have HEE := Lib.hid hE; have Hh := Lib.hid h; have HX := Lib.hid hX; have HXa := Lib.hid hXa; have He := Lib.hid he; have Hdn := Lib.hid hdn
  clear hU hH A0 Z0 O0 E0 sz h hP hE hX hXa he hv hdn
  go_enter Tryz.func38, Tryz.ntmps38
  go_wp2_with fail
  rw [HU.out]
  try rw [Hsz.out]
  rw [HH.out]
  clear HU Hsz
  go_loopg [4] 8 (fun kk s4 wr => ∃ j : Nat, s4 = .int .i64 (j : Int) ∧ j ≤ 8 ∧ 8 - j = kk ∧ (∃ (co : Array Value) (y : Nm), wr.heap[H + 2]? = some (.cells co 38 (0, 0)) ∧ RmW wr co y (P + j * (E + 1)) E ∧ EqN y ⟨cjP x.a (j), e⟩) ∧ ZVar wr H X (e : Int) ∧ ZVar wr (H + 1) (fun _ => 0) 0 ∧ Ext w wr)
  case atStart => exact ⟨0, rfl, by omega, by omega, Hst.out⟩
  case round =>
    clear Hst
    obtain ⟨j, rfl, hj, hjk, ⟨co, y, rO, hO, hq⟩, hA, hZ, hE⟩ := hrel
    obtain ⟨wo, rfl⟩ : ∃ wo : World, wo = wr := ⟨_, rfl⟩
    by_cases hj8 : j = 8
    · subst hj8
      have HO := Lib.hid hO; have HrO := Lib.hid rO; have Hq := Lib.hid hq; have HZ := Lib.hid hZ; have HE := Lib.hid hE
      obtain ⟨cA, rA, zA⟩ := hA
      have iA : (Tryz.prog.info? 38).map (·.size) = some cA.size := by rw [zA.1]; exact zR_info
      by_cases hz : zeroN X
      · have HQ := Lib.hid (QZero_any cA X _ wo zA true (by simp [hz]))
        have Hz := Lib.hid hz
        clear zA hz hZ hE hj hjk hO hq rO
        go_wp2_with (refine wpList_load_row rfl 38 _ rfl (H) rfl 38 _ (0, 0) _ rA Tryz.underlying38 rfl iA ?_)
        refine HQ.out.mono ?_
        rintro r w2 ⟨rfl, hx2⟩
        obtain ⟨c1, hr1, hs1, hone, hinf, rr, hzz, hE'⟩ := fin_rm (zcs_zero w2) (HZ.out.ext hx2) (HE.out.trans hx2) (by rw [HH.out]; omega)
        have Hend := Lib.hid (show RmA (w2.setRow (H + 1) zeroR) zeroR ⟨ext8 (fun _ => 0), 0⟩ (P + 8 * (E + 1)) E ∧ EqN ⟨ext8 (fun _ => 0), 0⟩ (nCj x) ∧ Ext w (w2.setRow (H + 1) zeroR) from
          ⟨⟨anti_ext8 (fun _ => 0), Or.inl rfl, fun k => by rw [ext8_zero]; exact Nat.pow_pos (by decide), Nat.zero_le _, hzz.congr fun i _ => by show (0 : Int) = ext8 (fun _ => 0) (i : Int); rw [ext8_zero]⟩, fun k => by
            have h9 := zero_of_zeroN Hh.out.anti (by rw [HX.out]; exact Hz.out) (-k)
            show ext8 (fun _ => 0) k * 2 ^ x.e = x.a (-k) * 2 ^ 0
            rw [h9, ext8_zero]; simp, hE'⟩)
        clear hzz hE' hx2 HQ HZ HE rA iA HO HrO
        go_wp2_with (refine wpList_store_row rfl 38 _ _ rfl (H + 1) zeroR rfl rfl 38 _ hr1 hinf hs1 hone ?_)
        refine bodyPost_ret (v := .agg zeroR) ?_ rfl ⟨_, _, rfl, Hend.out⟩
        exact results_cell_row rfl _ _ (H + 1) _ _ _ _ rfl rr Tryz.underlying38 rfl hinf
      have HQ := Lib.hid (QZero_any cA X _ wo zA false (by simp [hz]))
      clear zA hz hZ hE hj hjk hO hq rO
      go_wp2_with (refine wpList_load_row rfl 38 _ rfl (H) rfl 38 _ (0, 0) _ rA Tryz.underlying38 rfl iA ?_)
      refine HQ.out.mono ?_
      rintro r w2 ⟨rfl, hx2⟩
      clear rA iA
      have rO := (hx2.block _ (Array.getElem?_eq_some_iff.1 HrO.out).1).trans HrO.out
      have hO := HO.out.ext hx2
      have iO := hO.info
      have HZ2 := Lib.hid (HZ.out.ext hx2); have HE2 := Lib.hid (HE.out.trans hx2)
      have HQ2 := Lib.hid (Qleast_any co _ y.e w2 hO.val (P + 8 * (E + 1)) E HP.out (fun i _ => hO.abs i) hO.down (by have := HEE.out; omega))
      have Hya := Lib.hid hO.anti
      clear hO hx2 HZ HE HQ HO HrO
      go_wp2_with (refine wpList_load_row rfl 38 _ rfl (H + 2) rfl 38 _ (0, 0) _ rO Tryz.underlying38 rfl iO ?_)
      refine HQ2.out.mono ?_
      rintro r w3 ⟨cr, yy, rfl, hcr, hq3, hx3⟩
      obtain ⟨c1, hr1, hs1, hone, hinf, rr, hzz, hE'⟩ := fin_rm hcr.val (HZ2.out.ext hx3) (HE2.out.trans hx3) (by rw [HH.out]; omega)
      have Hend := Lib.hid (show RmA (w3.setRow (H + 1) cr) cr yy (P + 8 * (E + 1)) E ∧ EqN yy (nCj x) ∧ Ext w (w3.setRow (H + 1) cr) from
        ⟨⟨hcr.anti, hcr.low, hcr.abs, hcr.down, hzz⟩, (hq3.trans (EqN.of_eq (by rw [ext8_of Hya.out]))).trans (Hq.out.trans (EqN.of_eq (by rw [cjP_eight Hh.out.anti, ← He.out]; rfl))), hE'⟩)
      clear hcr hq3 hzz hE' hx3 HQ2 HZ2 HE2 rO iO
      go_wp2_with (refine wpList_store_row rfl 38 _ _ rfl (H + 1) cr rfl rfl 38 _ hr1 hinf hs1 hone ?_)
      refine bodyPost_ret (v := .agg cr) ?_ rfl ⟨_, _, rfl, Hend.out⟩
      exact results_cell_row rfl _ _ (H + 1) _ _ _ _ rfl rr Tryz.underlying38 rfl hinf
    have hlt : j < 8 := by omega
    have q1 : (j : Int) < 8 := by omega
    have q0 : (0 : Int) ≤ (j : Int) := by omega
    have wk : IntKind.i64.wrap ((j : Int) + 1) = ((j + 1 : Nat) : Int) := by rw [IntKind.wrap_i64]; omega
    have wn : IntKind.i64.wrap (-(j : Int)) = -(j : Int) := by rw [IntKind.wrap_i64]; omega
    have Hj1 := Lib.hid (show j + 1 ≤ 8 by omega); have Hlt := Lib.hid hlt; have Hjk := Lib.hid hjk
    obtain ⟨b1, a1, n1, c1, y0, y1, _, _, hI1⟩ := hA.get j hlt
    have y16 := hA.gete.1
    have hab : (X j).natAbs < 2 ^ P := by rw [HXa.out]; exact Hh.out.abs j
    have HOf := Lib.hid (fun wx (hx : Ext wo wx) => QOf_nm b1 a1 n1 c1 (X j) P E wx (hI1.ext hx) hab)
    have lH := hA.lt
    have lO := (Array.getElem?_eq_some_iff.1 rO).1
    have iO := hO.info
    have HO := Lib.hid hO; have Hq := Lib.hid hq; have HA := Lib.hid hA; have HZ := Lib.hid hZ; have HE := Lib.hid hE; have HI1 := Lib.hid hI1
    have Hab := Lib.hid hab
    clear hI1 hA hZ hE hO hq hj8 hj hlt hjk hab
    go_upto_region 5 with fail
    have hd0 : Ext wo wo.drew := Below.drew (Ext.refl _)
    refine wp_region_K 14 (fun w' => w'.heap[H + 2]? = some (.cells co 38 (0, 0)) ∧ (w'.cell? ⟨H, j * 2, none⟩ = some (.bool b1) ∧ w'.cell? ⟨H, j * 2 + 1, none⟩ = some (.slice a1 n1 c1)) ∧ w'.cell? ⟨H, 16, none⟩ = some (.int .i64 (e : Int))) (by kernel_rfl) ?_
    show anyK _ _ _ _ _ _ 15 #[false, false, false, false, false, false, false, false, false, false, false, false, false, false, false] _ _
    have hHeld : wo.drew.heap[H + 2]? = some (.cells co 38 (0, 0)) ∧ (wo.drew.cell? ⟨H, j * 2, none⟩ = some (.bool b1) ∧ wo.drew.cell? ⟨H, j * 2 + 1, none⟩ = some (.slice a1 n1 c1)) ∧ wo.drew.cell? ⟨H, 16, none⟩ = some (.int .i64 (e : Int)) := ⟨(hd0.block _ lO).trans rO, ⟨cellKeep hd0 lH y0, cellKeep hd0 lH y1⟩, cellKeep hd0 lH y16⟩
    refine anyK_take (i := 0) (v := .agg co) rfl (by kernel_rfl) (by kernel_rfl) (by kernel_rfl) (N := 15) (by kernel_rfl) (by kernel_rfl) (by kernel_rfl) (fun _ _ _ h => h) (Or.inl ⟨by rfl, ?_⟩) hHeld ?_
    · intro w hSw
      exact exec_load_row 38 _ rfl (H + 2) rfl 38 _ (0, 0) _ hSw.1 Tryz.underlying38 rfl iO
    show anyK _ _ _ _ _ _ _ _ (Act.put _ (some 10) _) _
    simp only [Act.put, List.setIfInBounds_toArray, List.set_cons_zero, List.set_cons_succ]
    refine anyK_take (i := 1) (v := ?_) rfl (by kernel_rfl) (by kernel_rfl) (by kernel_rfl) (N := 15) (by kernel_rfl) (by kernel_rfl) (by kernel_rfl) (fun _ _ _ h => h) (Or.inl ⟨by rfl, ?_⟩) hHeld ?_
    rotate_left 1
    · intro w hSw
      go_simp
      try with_reducible rfl
    show anyK _ _ _ _ _ _ _ _ (Act.put _ (some 11) _) _
    simp only [Act.put, List.setIfInBounds_toArray, List.set_cons_zero, List.set_cons_succ]
    refine anyK_take (i := 2) (v := ?_) rfl (by kernel_rfl) (by kernel_rfl) (by kernel_rfl) (N := 15) (by kernel_rfl) (by kernel_rfl) (by kernel_rfl) (fun _ _ _ h => h) (Or.inl ⟨by rfl, ?_⟩) hHeld ?_
    rotate_left 1
    · intro w hSw
      go_simp
      try with_reducible rfl
    show anyK _ _ _ _ _ _ _ _ (Act.put _ (some 12) _) _
    simp only [Act.put, List.setIfInBounds_toArray, List.set_cons_zero, List.set_cons_succ]
    refine anyK_take (i := 3) (v := ?_) rfl (by kernel_rfl) (by kernel_rfl) (by kernel_rfl) (N := 15) (by kernel_rfl) (by kernel_rfl) (by kernel_rfl) (fun _ _ _ h => h) (Or.inl ⟨by rfl, ?_⟩) hHeld ?_
    rotate_left 1
    · intro w hSw
      go_simp
      try with_reducible rfl
    show anyK _ _ _ _ _ _ _ _ (Act.put _ (some 13) _) _
    simp only [Act.put, List.setIfInBounds_toArray, List.set_cons_zero, List.set_cons_succ]
    refine anyK_take (i := 4) (v := ?_) rfl (by kernel_rfl) (by kernel_rfl) (by kernel_rfl) (N := 15) (by kernel_rfl) (by kernel_rfl) (by kernel_rfl) (fun _ _ _ h => h) (Or.inl ⟨by rfl, ?_⟩) hHeld ?_
    rotate_left 1
    · intro w hSw
      go_simp
      try with_reducible rfl
    show anyK _ _ _ _ _ _ _ _ (Act.put _ (some 14) _) _
    simp only [Act.put, List.setIfInBounds_toArray, List.set_cons_zero, List.set_cons_succ]
    refine anyK_take (i := 7) (v := ?_) rfl (by kernel_rfl) (by kernel_rfl) (by kernel_rfl) (N := 15) (by kernel_rfl) (by kernel_rfl) (by kernel_rfl) (fun _ _ _ h => h) (Or.inl ⟨by rfl, ?_⟩) hHeld ?_
    rotate_left 1
    · intro w hSw
      go_simp
      try with_reducible rfl
    show anyK _ _ _ _ _ _ _ _ (Act.put _ (some 17) _) _
    simp only [Act.put, List.setIfInBounds_toArray, List.set_cons_zero, List.set_cons_succ]
    refine anyK_take (i := 8) (v := ?_) rfl (by kernel_rfl) (by kernel_rfl) (by kernel_rfl) (N := 15) (by kernel_rfl) (by kernel_rfl) (by kernel_rfl) (fun _ _ _ h => h) (Or.inl ⟨by rfl, ?_⟩) hHeld ?_
    rotate_left 1
    · intro w hSw
      go_simp
      try with_reducible rfl
    show anyK _ _ _ _ _ _ _ _ (Act.put _ (some 18) _) _
    simp only [Act.put, List.setIfInBounds_toArray, List.set_cons_zero, List.set_cons_succ]
    refine anyK_take (i := 10) (v := ?_) rfl (by kernel_rfl) (by kernel_rfl) (by kernel_rfl) (N := 15) (by kernel_rfl) (by kernel_rfl) (by kernel_rfl) (fun _ _ _ h => h) (Or.inl ⟨by rfl, ?_⟩) hHeld ?_
    rotate_left 1
    · intro w hSw
      go_simp
      try with_reducible rfl
    show anyK _ _ _ _ _ _ _ _ (Act.put _ (some 20) _) _
    simp only [Act.put, List.setIfInBounds_toArray, List.set_cons_zero, List.set_cons_succ]
    refine anyK_take (i := 11) (v := ?_) rfl (by kernel_rfl) (by kernel_rfl) (by kernel_rfl) (N := 15) (by kernel_rfl) (by kernel_rfl) (by kernel_rfl) (fun _ _ _ h => h) (Or.inl ⟨by rfl, ?_⟩) hHeld ?_
    rotate_left 1
    · intro w hSw
      go_simp
      try with_reducible rfl
    show anyK _ _ _ _ _ _ _ _ (Act.put _ (some 21) _) _
    simp only [Act.put, List.setIfInBounds_toArray, List.set_cons_zero, List.set_cons_succ]
    clear hHeld
    refine anyK_one (i := 5) (by kernel_rfl) rfl (fun Kk hKk => ?_)
    go_simp
    (go_at_call 45; refine (HOf.out wo.drew hd0).mono ?_; rintro r w1 ⟨cf, rfl, hcf, hx1⟩)
    have he1 := hd0.trans hx1
    go_wp2_with fail
    refine hKk.out _ _ (fun _ => ⟨(he1.block _ lO).trans rO, ⟨cellKeep he1 lH y0, cellKeep he1 lH y1⟩, cellKeep he1 lH y16⟩) ?_
    clear hKk Kk hx1
    simp only [List.setIfInBounds_toArray, List.set_cons_zero, List.set_cons_succ]
    obtain ⟨l, rfl⟩ : ∃ l : List Value, cf = l.toArray := ⟨cf.toList, by simp⟩
    have hl : l.length = 17 := by have := hcf.val.1; simpa using this
    match l, hl with
    | [v0, v1, v2, v3, v4, v5, v6, v7, v8, v9, v10, v11, v12, v13, v14, v15, v16], _ =>
    have hHeld : w1.heap[H + 2]? = some (.cells co 38 (0, 0)) ∧ (w1.cell? ⟨H, j * 2, none⟩ = some (.bool b1) ∧ w1.cell? ⟨H, j * 2 + 1, none⟩ = some (.slice a1 n1 c1)) ∧ w1.cell? ⟨H, 16, none⟩ = some (.int .i64 (e : Int)) := ⟨(he1.block _ lO).trans rO, ⟨cellKeep he1 lH y0, cellKeep he1 lH y1⟩, cellKeep he1 lH y16⟩
    refine anyK_take (i := 6) (v := .agg #[v0, v1, v2, v3, v4, v5, v6, v7, v8, v9, v10, v11, v12, v13, v14, v15]) rfl (by kernel_rfl) (by kernel_rfl) (by kernel_rfl) (N := 15) (by kernel_rfl) (by kernel_rfl) (by kernel_rfl) (fun _ _ _ h => h) (Or.inl ⟨by rfl, ?_⟩) hHeld ?_
    · intro w hSw
      kernel_rfl
    show anyK _ _ _ _ _ _ _ _ (Act.put _ (some 16) _) _
    simp only [Act.put, List.setIfInBounds_toArray, List.set_cons_zero, List.set_cons_succ]
    refine anyK_take (i := 9) (v := .agg #[v0, v1, v2, v3, v4, v5, v6, v7, v8, v9, v10, v11, v12, v13, v14, v15, .int .i64 (e : Int)]) rfl (by kernel_rfl) (by kernel_rfl) (by kernel_rfl) (N := 15) (by kernel_rfl) (by kernel_rfl) (by kernel_rfl) (fun _ _ _ h => h) (Or.inl ⟨by rfl, ?_⟩) hHeld ?_
    · intro w hSw
      kernel_rfl
    show anyK _ _ _ _ _ _ _ _ (Act.put _ (some 19) _) _
    simp only [Act.put, List.setIfInBounds_toArray, List.set_cons_zero, List.set_cons_succ]
    clear hHeld
    have hcw : RmW w1 #[v0, v1, v2, v3, v4, v5, v6, v7, v8, v9, v10, v11, v12, v13, v14, v15, .int .i64 (e : Int)] ⟨mono 0 (X j), e⟩ P E := ⟨hcf.anti, hcf.abs, Hdn.out, hcf.val.over (e : Int)⟩
    have HTu := Lib.hid (QTurn_w _ _ P E (-(j : Int)) w1 hcw (by have := HP.out; omega))
    clear hcw hcf
    refine anyK_one (i := 12) (by kernel_rfl) rfl (fun Kk hKk => ?_)
    go_simp
    (go_at_call 22; refine HTu.out.mono ?_; rintro r w2 ⟨ct, rfl, hct, hx2⟩)
    have he2 := he1.trans hx2
    go_wp2_with fail
    refine hKk.out _ _ (fun _ => ⟨(he2.block _ lO).trans rO, ⟨cellKeep he2 lH y0, cellKeep he2 lH y1⟩, cellKeep he2 lH y16⟩) ?_
    clear hKk Kk hx2 HTu
    simp only [List.setIfInBounds_toArray, List.set_cons_zero, List.set_cons_succ]
    have HAd := Lib.hid (QAdd_w co ct y _ (P + j * (E + 1)) E w2 (HO.out.ext he2) (hct.le (Nat.le_add_right _ _) (Nat.le_refl _)) (by
      have h8 := Nat.mul_le_mul_right (E + 1) (show j + 1 ≤ 8 from Hj1.out)
      have := HP.out
      rw [Nat.succ_mul] at h8
      omega) HEE.out)
    clear hct
    refine anyK_one (i := 13) (by kernel_rfl) rfl (fun Kk hKk => ?_)
    go_simp
    (go_at_call 30; refine HAd.out.mono ?_; rintro r w3 ⟨cr, z, rfl, hcr, _, hq3, hx3⟩)
    have he3 := he2.trans hx3
    go_wp2_with fail
    refine hKk.out _ _ (fun _ => ⟨(he3.block _ lO).trans rO, ⟨cellKeep he3 lH y0, cellKeep he3 lH y1⟩, cellKeep he3 lH y16⟩) ?_
    clear hKk Kk hx3 HAd
    simp only [List.setIfInBounds_toArray, List.set_cons_zero, List.set_cons_succ]
    have hO3 := HO.out.ext he3
    have r3 := (he3.block _ lO).trans rO
    have hV3 : ZVar w3 (H + 2) _ _ := ⟨co, r3, hO3.val⟩
    obtain ⟨_, hch, hrr, hzz⟩ := hcr.val.setRow hV3
    have iR := hcr.info
    have sR : co.size = cr.size := by rw [hO3.val.1, hcr.val.1]
    have oR := hcr.val.one
    refine anyK_one (i := 14) (by kernel_rfl) rfl (fun Kk hKk => ?_)
    refine stepK_storeR rfl rfl 38 _ _ rfl (H + 2) cr rfl rfl 38 _ r3 iR sR oR ?_
    refine hKk.out _ _ (fun h => Bool.noConfusion (show true = false from h)) ?_
    clear hKk Kk
    simp only [List.setIfInBounds_toArray, List.set_cons_zero, List.set_cons_succ]
    refine anyK_done (by kernel_rfl) ?_ _
    have Hend := Lib.hid (show (∃ (co : Array Value) (y : Nm), (w3.setRow (H + 2) cr).heap[H + 2]? = some (.cells co 38 (0, 0)) ∧ RmW (w3.setRow (H + 2) cr) co y (P + (j + 1) * (E + 1)) E ∧ EqN y ⟨cjP x.a ((j + 1)), e⟩) ∧ ZVar (w3.setRow (H + 2) cr) H X (e : Int) ∧ ZVar (w3.setRow (H + 2) cr) (H + 1) (fun _ => 0) 0 ∧ Ext w (w3.setRow (H + 2) cr) from by
      refine ⟨⟨cr, z, hrr, ?_, ?_⟩, (HA.out.ext he3).chz hch hV3.no (by omega), (HZ.out.ext he3).chz hch hV3.no (by omega), hch.ext (HE.out.trans he3) (by rw [HH.out]; omega)⟩
      · have h9 : P + j * (E + 1) + E + 1 = P + (j + 1) * (E + 1) := by rw [Nat.succ_mul]; omega
        rw [← h9]
        exact ⟨hcr.anti, hcr.abs, hcr.down, hzz⟩
      · refine hq3.trans ((EqN.add Hq.out (EqN.refl _)).trans ?_)
        have h9 : nTr (-(j : Int)) ⟨mono 0 (X j), e⟩ = ⟨mono (-(j : Int)) (x.a j), e⟩ := by
          unfold nTr; rw [tr_mono, HXa.out]
        rw [h9]
        exact eqN_add_same _ _ e)
    clear hch hrr hzz hV3 r3 iR sR oR hcr hq3 he3 he2 he1 hd0 HOf HO Hq HA HZ HE HI1 y0 y1 y16 lH lO rO iO hO3
    generalize w3.setRow (H + 2) cr = V at *
    go_wp2_with fail
    go_roundg (8 - (j + 1))
    case measure => have := Hjk.out; have := Hj1.out; omega
    case rel => exact ⟨j + 1, rfl, Hj1.out, rfl, Hend.out⟩
end Go.Proofs.YtiicfpdiehgikaaGreatDoor
namespace Go.Proofs.YtiicfpdiehgikaaGreatDoor
open Go.RowKit

theorem mul_mono0 (f : Nat → Int) (c : Int) : mulR (ext8 f) (mono 0 c) = ext8 fun i => f i * c := by
  funext k
  have h1 : mono 0 c = fun j => mono 0 1 j * c := by funext j; unfold mono; repeat (split); all_goals simp
  have h2 : mulR (ext8 f) (fun j => mono 0 1 j * c) k = mulR (ext8 f) (mono 0 1) k * c := by simp only [mulR, sum8]; grind
  rw [h1, h2, mulR_comm (anti_ext8 f) (anti_mono 0 1), mono_tr, mulR_one (anti_ext8 f) 0]
  show ext8 f (k - 0) * c = _
  rw [Int.sub_zero]
  exact (ext8_scale (fun i _ => rfl) k).symm

set_option maxRecDepth 100000 in
set_option maxHeartbeats 4000000 in
theorem QMake_good (ao : Option Addr) (n cp : Nat) (l : List Int) (e : Int) (w : World) (hl : IntsAt w ao n l) (hr : ∀ t, t < n → -9223372036854775808 ≤ l.getD t 0 ∧ l.getD t 0 ≤ 9223372036854775807) (hn : n ≤ 17592186044416) (hb : ¬ badE e) :
    Calls Tryz.prog 28 #[.slice ao n cp, .int .i64 e] w fun r w' => ∃ (cr : Array Value) (x : Nm), r = .returned (.tuple #[.agg cr, .agg #[.int .i64 0, .int .i64 0]]) ∧ RmA w' cr x 10120 10000 ∧ EqN x (mkNm l e) ∧ Ext w w' := by
  have hbb : -10000 ≤ e ∧ e ≤ 10000 := by unfold badE at hb; omega
  have hlen := hl.1
  have hmb : ∀ j, j ≤ n → ∀ i, i < 8 → (mkN l j i).natAbs < 2 ^ 108 := fun j hj i hi => by
    have h1 := mkN_abs l n hr j hj i hi
    have h2 : j * 9223372036854775808 ≤ 17592186044416 * 9223372036854775808 := Nat.mul_le_mul_right _ (by omega)
    have h3 : (17592186044416 * 9223372036854775808 : Nat) < 2 ^ 108 := by decide
    omega
  have hmx : ∀ j, j ≤ n → ∀ k, (ext8 (mkN l j) k).natAbs < 2 ^ 108 := fun j hj k => Nat.lt_of_le_of_lt (ext8_abs (A := 2 ^ 108 - 1) (fun i hi => by have := hmb j hj i hi; omega) k) (by decide)
  have b1 : ¬ e < -10000 := by omega
  have b2 : ¬ 10000 < e := by omega
  obtain ⟨H, hH⟩ : ∃ H, w.heap.size = H := ⟨_, rfl⟩
  obtain ⟨U, hU⟩ : ∃ U, ((w.alloc (.cells zeroR 38)).alloc (.cells #[.int .i64 0, .int .i64 0] 30)).alloc (.cells zeroR 38) = U := ⟨_, rfl⟩
  have E0 : Ext w U := by rw [← hU]; exact ((Ext.alloc _ _).trans (Ext.alloc _ _)).trans (Ext.alloc _ _)
  have Z0 : ZVar U H (fun _ => 0) 0 := by rw [← hU, ← hH]; exact ((zcs_zero w).box.ext (Ext.alloc _ _)).ext (Ext.alloc _ _)
  have F0' : U.heap[H + 1]? = some (.cells #[.int .i64 0, .int .i64 0] 30 (0, 0)) := by
    have h3 := heap_alloc_new (w.alloc (.cells zeroR 38)) (.cells #[.int .i64 0, .int .i64 0] 30)
    have h4 := ((Ext.alloc ((w.alloc (.cells zeroR 38)).alloc (.cells #[.int .i64 0, .int .i64 0] 30)) (.cells zeroR 38)).block _ (Array.getElem?_eq_some_iff.1 h3).1).trans h3
    rw [← hU, ← hH]
    simpa using h4
  have O0 : U.heap[H + 2]? = some (.cells zeroR 38 (0, 0)) := by
    have := heap_alloc_new ((w.alloc (.cells zeroR 38)).alloc (.cells #[.int .i64 0, .int .i64 0] 30)) (.cells zeroR 38)
    rw [← hU, ← hH]
    simpa using this
  have sz : ((w.alloc (.cells zeroR 38)).alloc (.cells #[.int .i64 0, .int .i64 0] 30)).heap.size = H + 2 := by rw [← hH]; simp
  have Hst := Lib.hid (show (∃ co : Array Value, U.heap[H + 2]? = some (.cells co 38 (0, 0)) ∧ RmA U co ⟨ext8 (mkN l (0)), 0⟩ 108 0) ∧ ZVar U H (fun _ => 0) 0 ∧ U.heap[H + 1]? = some (.cells #[.int .i64 0, .int .i64 0] 30 (0, 0)) ∧ Ext w U from
    ⟨⟨zeroR, O0, ⟨anti_ext8 _, Or.inl rfl, hmx 0 (Nat.zero_le _), Nat.le_refl _, (zcs_zero U).congr fun i _ => by show (0 : Int) = ext8 (mkN l 0) (i : Int); rw [show mkN l 0 = fun _ => 0 from rfl, ext8_zero]⟩⟩, Z0, F0', E0⟩)
  have HU := Lib.hid hU; have HH := Lib.hid hH; have Hsz := Lib.hid sz; have Hl := Lib.hid hl; have Hr := Lib.hid hr; have Hn := Lib.hid hn; have Hbb := Lib.hid hbb; have Hlen := Lib.hid hlen; have Hmb := Lib.hid hmb; have Hmx := Lib.hid hmx
  clear hU hH Z0 F0' O0 E0 sz hl hr hn hb hbb hlen hmb hmx
  go_enter Tryz.func28, Tryz.ntmps28
  go_wp2_with fail
  rw [HU.out]
  try rw [Hsz.out]
  rw [HH.out]
  clear HU Hsz b1 b2
  go_loopg [7] n (fun kk s7 wr => ∃ j : Nat, s7 = .int .i64 (j : Int) ∧ j ≤ n ∧ n - j = kk ∧ (∃ co : Array Value, wr.heap[H + 2]? = some (.cells co 38 (0, 0)) ∧ RmA wr co ⟨ext8 (mkN l (j)), 0⟩ 108 0) ∧ ZVar wr H (fun _ => 0) 0 ∧ wr.heap[H + 1]? = some (.cells #[.int .i64 0, .int .i64 0] 30 (0, 0)) ∧ Ext w wr)
  case atStart => exact ⟨0, rfl, by omega, by omega, Hst.out⟩
  case round =>
    clear Hst
    obtain ⟨j, rfl, hj, hjk, ⟨co, rO, hO⟩, hZ, hF, hE⟩ := hrel
    obtain ⟨wo, rfl⟩ : ∃ wo : World, wo = wr := ⟨_, rfl⟩
    have lO := (Array.getElem?_eq_some_iff.1 rO).1
    have iO := hO.info
    by_cases hj8 : j = n
    · subst hj8
      have HO := Lib.hid hO; have HZ := Lib.hid hZ; have HFl := Lib.hid hF; have HE := Lib.hid hE
      clear hO hZ hF hE hjk hj
      by_cases he : e < 0
      · obtain ⟨m, hm⟩ : ∃ m : Nat, e = -(m : Int) := ⟨(-e).toNat, by omega⟩
        have Hm := Lib.hid (show m ≤ 10000 by have := Hbb.out; omega)
        have wn : IntKind.i64.wrap (m : Int) = (m : Int) := by have := Hm.out; rw [IntKind.wrap_i64]; omega
        have Hmk := Lib.hid (show mkNm l e = ⟨ext8 fun i => mkN l j i * ((2 ^ m : Nat) : Int), 0⟩ by unfold mkNm; rw [if_pos he, Hlen.out, hm]; simp)
        subst hm
        have HPw := Lib.hid (fun wx => ZPow2_any m Hm.out wx)
        obtain ⟨Q, hQ⟩ : ∃ Q : Nat, Q = 10001 := ⟨_, rfl⟩
        have hpb : (((2 ^ m : Nat) : Int)).natAbs < 2 ^ Q := by rw [Int.natAbs_natCast]; exact Nat.pow_lt_pow_right (by decide) (by have := Hm.out; omega)
        have HOf := Lib.hid (fun (wx : World) (b9 : Bool) (a9 : Option Addr) (n9 c9 : Nat) (i9 : IsZ wx b9 a9 n9 c9 ((2 ^ m : Nat) : Int)) => QOf_nm b9 a9 n9 c9 _ Q 0 wx i9 hpb)
        have HMu := Lib.hid (fun (wx : World) (hx : Ext wo wx) (cf : Array Value) (hf : RmA wx cf (nOf ((2 ^ m : Nat) : Int)) Q 0) => QMul_nm co cf _ _ 108 0 Q 0 wx (HO.out.ext hx) hf (by omega) (by decide))
        have HQQ := Lib.hid hQ
        clear hpb hQ
        go_upto_region 9 with fail
        have hd0 : Ext wo wo.drew := Below.drew (Ext.refl _)
        refine wp_region_K 8 (fun w' => w'.heap[H + 2]? = some (.cells co 38 (0, 0))) (by kernel_rfl) ?_
        show anyK _ _ _ _ _ _ 9 #[false, false, false, false, false, false, false, false, false] _ _
        have hHeld : wo.drew.heap[H + 2]? = some (.cells co 38 (0, 0)) := (hd0.block _ lO).trans rO
        refine anyK_take (i := 0) (v := .agg co) rfl (by kernel_rfl) (by kernel_rfl) (by kernel_rfl) (N := 9) (by kernel_rfl) (by kernel_rfl) (by kernel_rfl) (fun _ _ _ h => h) (Or.inl ⟨by rfl, ?_⟩) hHeld ?_
        · intro w hSw
          exact exec_load_row 38 _ rfl (H + 2) rfl 38 _ (0, 0) _ hSw Tryz.underlying38 rfl iO
        show anyK _ _ _ _ _ _ _ _ (Act.put _ (some 35) _) _
        simp only [Act.put, List.setIfInBounds_toArray, List.set_cons_zero, List.set_cons_succ]
        refine anyK_take (i := 1) (v := ?_) rfl (by kernel_rfl) (by kernel_rfl) (by kernel_rfl) (N := 9) (by kernel_rfl) (by kernel_rfl) (by kernel_rfl) (fun _ _ _ h => h) (Or.inl ⟨by rfl, ?_⟩) hHeld ?_
        rotate_left 1
        · intro w hSw
          go_simp
          try with_reducible rfl
        show anyK _ _ _ _ _ _ _ _ (Act.put _ (some 36) _) _
        simp only [Act.put, List.setIfInBounds_toArray, List.set_cons_zero, List.set_cons_succ]
        refine anyK_take (i := 2) (v := ?_) rfl (by kernel_rfl) (by kernel_rfl) (by kernel_rfl) (N := 9) (by kernel_rfl) (by kernel_rfl) (by kernel_rfl) (fun _ _ _ h => h) (Or.inl ⟨by rfl, ?_⟩) hHeld ?_
        rotate_left 1
        · intro w hSw
          go_simp
          try with_reducible rfl
        show anyK _ _ _ _ _ _ _ _ (Act.put _ (some 37) _) _
        simp only [Act.put, List.setIfInBounds_toArray, List.set_cons_zero, List.set_cons_succ]
        refine anyK_take (i := 6) (v := ?_) rfl (by kernel_rfl) (by kernel_rfl) (by kernel_rfl) (N := 9) (by kernel_rfl) (by kernel_rfl) (by kernel_rfl) (fun _ _ _ h => h) (Or.inl ⟨by rfl, ?_⟩) hHeld ?_
        rotate_left 1
        · intro w hSw
          go_simp
          try with_reducible rfl
        show anyK _ _ _ _ _ _ _ _ (Act.put _ (some 41) _) _
        simp only [Act.put, List.setIfInBounds_toArray, List.set_cons_zero, List.set_cons_succ]
        clear hHeld
        refine anyK_one (i := 3) (by kernel_rfl) rfl (fun Kk hKk => ?_)
        go_simp
        (go_at_call 68; refine (HPw.out _).mono ?_; rintro r w1 ⟨b9, a9, n9, c9, rfl, hI9, _, hxx⟩)
        have he1 := hd0.trans hxx
        go_wp2_with fail
        refine hKk.out _ _ (fun _ => (he1.block _ lO).trans rO) ?_
        clear hKk Kk hxx
        simp only [List.setIfInBounds_toArray, List.set_cons_zero, List.set_cons_succ]
        refine anyK_one (i := 4) (by kernel_rfl) rfl (fun Kk hKk => ?_)
        go_simp
        (go_at_call 45; refine (HOf.out w1 b9 a9 n9 c9 hI9).mono ?_; rintro r w2 ⟨cf, rfl, hcf, hxx⟩)
        have he2 := he1.trans hxx
        go_wp2_with fail
        refine hKk.out _ _ (fun _ => (he2.block _ lO).trans rO) ?_
        clear hKk Kk hxx
        simp only [List.setIfInBounds_toArray, List.set_cons_zero, List.set_cons_succ]
        refine anyK_one (i := 5) (by kernel_rfl) rfl (fun Kk hKk => ?_)
        go_simp
        (go_at_call 34; refine (HMu.out w2 he2 cf hcf).mono ?_; rintro r w4 ⟨cr, x, rfl, hcr, hy, hxx⟩)
        have he3 := he2.trans hxx
        go_wp2_with fail
        refine hKk.out _ _ (fun _ => (he3.block _ lO).trans rO) ?_
        clear hKk Kk hxx
        simp only [List.setIfInBounds_toArray, List.set_cons_zero, List.set_cons_succ]
        have hF4 : w4.heap[H + 1]? = some (.cells #[.int .i64 0, .int .i64 0] 30 (0, 0)) := (he3.block _ (Array.getElem?_eq_some_iff.1 HFl.out).1).trans HFl.out
        obtain ⟨c1, hr1, hs1, hone, hinf, rr, hzz, hE'⟩ := fin_rm hcr.val (HZ.out.ext he3) (HE.out.trans he3) (by rw [HH.out]; exact Nat.le_refl _)
        have hF5 : (w4.setRow H cr).heap[H + 1]? = some (.cells #[.int .i64 0, .int .i64 0] 30 (0, 0)) := (setRow_other w4 H (H + 1) cr (by omega)).trans hF4
        have hself := setRow_self (w4.setRow H cr) (H + 1) _ _ _ hF5
        have honeF := fault_one 0 0
        have Hend := Lib.hid (show RmA (w4.setRow H cr) cr x 10120 10000 ∧ EqN x (mkNm l (-(m : Int))) ∧ Ext w (w4.setRow H cr) from
          ⟨RmA.le ⟨hcr.anti, hcr.low, hcr.abs, hcr.down, hzz⟩ (by have := HQQ.out; omega) (by decide), hy.trans (EqN.of_eq (by rw [Hmk.out]; show Nm.mk (mulR (ext8 (mkN l j)) (mono 0 ((2 ^ m : Nat) : Int))) (0 + 0) = _; rw [mul_mono0])), hE'⟩)
        clear hzz hE' hcr hy hF4 honeF
        refine anyK_one (i := 7) (by kernel_rfl) rfl (fun Kk hKk => ?_)
        refine stepK_storeR rfl rfl 38 _ _ rfl H cr rfl rfl 38 _ hr1 hinf hs1 hone ?_
        refine hKk.out _ _ (fun _ => (setRow_other w4 H (H + 2) cr (by omega)).trans ((he3.block _ lO).trans rO)) ?_
        clear hKk Kk
        simp only [List.setIfInBounds_toArray, List.set_cons_zero, List.set_cons_succ]
        refine anyK_one (i := 8) (by kernel_rfl) rfl (fun Kk hKk => ?_)
        refine stepK_storeR rfl rfl 30 _ _ rfl (H + 1) #[.int .i64 0, .int .i64 0] rfl rfl 30 _ hF5 fault_info rfl (fault_one 0 0) ?_
        rw [hself]
        refine hKk.out _ _ (fun h => Bool.noConfusion (show true = false from h)) ?_
        clear hKk Kk hself
        simp only [List.setIfInBounds_toArray, List.set_cons_zero, List.set_cons_succ]
        refine anyK_done (by kernel_rfl) ?_ _
        go_wp2_with fail
        refine bodyPost_ret (v := .tuple #[.agg cr, .agg #[.int .i64 0, .int .i64 0]]) ?_ rfl ⟨_, _, rfl, Hend.out⟩
        exact results_row2 rfl _ _ H (H + 1) _ _ _ _ _ _ _ _ rfl rfl rr hF5 Tryz.underlying38 rfl hinf Tryz.underlying30 rfl fault_info
      obtain ⟨d, rfl⟩ : ∃ d : Nat, e = (d : Int) := ⟨e.toNat, by omega⟩
      have Hmk := Lib.hid (show mkNm l (d : Int) = ⟨ext8 (mkN l j), d⟩ by unfold mkNm; rw [if_neg he, Hlen.out]; simp)
      have Hd := Lib.hid (show d ≤ 10000 by have := Hbb.out; omega)
      have hV : ZVar wo (H + 2) (mkN l j) 0 := ⟨co, rO, HO.out.val.congr fun i hi => by show ext8 (mkN l j) (i : Int) = mkN l j i; rw [ext8_at _ _ (by omega) (by omega)]; rfl⟩
      have y16 := hV.gete.1; have g16 := hV.gete.2
      obtain ⟨hs, hch⟩ := hV.sete (d : Int)
      have hZ' := HZ.out.chz hch hV.no (by omega); have hF' := hch.row HFl.out (by omega); have hE' := hch.ext HE.out (by rw [HH.out]; omega)
      obtain ⟨W, hW⟩ : ∃ W, wo.setCell ⟨H + 2, 16, none⟩ (.int .i64 (d : Int)) = W := ⟨_, rfl⟩
      rw [hW] at hs hZ' hF' hE'
      have HW := Lib.hid hW; have HZW := Lib.hid hZ'; have HFW := Lib.hid hF'; have HEW := Lib.hid hE'; have HsW := Lib.hid hs
      clear hW hch hV hZ' hF' hE' HO HZ HFl HE rO lO iO
      go_upto_region 11 with fail
      rw [HW.out]
      clear HW y16 g16
      obtain ⟨cA, rA, zA⟩ := hs
      have iA : (Tryz.prog.info? 38).map (·.size) = some cA.size := by rw [zA.1]; exact zR_info
      by_cases hz : zeroN (mkN l j)
      · have HQ := Lib.hid (QZero_any cA _ _ W zA true (by simp [hz]))
        have Hz := Lib.hid hz
        clear zA hz
        go_wp2_with (refine wpList_load_row rfl 38 _ rfl (H + 2) rfl 38 _ (0, 0) _ rA Tryz.underlying38 rfl iA ?_)
        refine HQ.out.mono ?_
        rintro r w2 ⟨rfl, hx2⟩
        have hF4 : w2.heap[H + 1]? = some (.cells #[.int .i64 0, .int .i64 0] 30 (0, 0)) := (hx2.block _ (Array.getElem?_eq_some_iff.1 HFW.out).1).trans HFW.out
        obtain ⟨c1, hr1, hs1, hone, hinf, rr, hzz, hE'⟩ := fin_rm (zcs_zero w2) (HZW.out.ext hx2) (HEW.out.trans hx2) (by rw [HH.out]; exact Nat.le_refl _)
        have hF5 : (w2.setRow H zeroR).heap[H + 1]? = some (.cells #[.int .i64 0, .int .i64 0] 30 (0, 0)) := (setRow_other w2 H (H + 1) zeroR (by omega)).trans hF4
        have hself := setRow_self (w2.setRow H zeroR) (H + 1) _ _ _ hF5
        have honeF := fault_one 0 0
        have Hend := Lib.hid (show RmA (w2.setRow H zeroR) zeroR ⟨ext8 (fun _ => 0), 0⟩ 10120 10000 ∧ EqN ⟨ext8 (fun _ => 0), 0⟩ (mkNm l (d : Int)) ∧ Ext w (w2.setRow H zeroR) from
          ⟨RmA.le (P := 108) (E := 10000) ⟨anti_ext8 (fun _ => 0), Or.inl rfl, fun k => by rw [ext8_zero]; exact Nat.pow_pos (by decide), Nat.zero_le _, hzz.congr fun i _ => by show (0 : Int) = ext8 (fun _ => 0) (i : Int); rw [ext8_zero]⟩ (by decide) (Nat.le_refl _), by rw [Hmk.out]; exact same_zero (f := mkN l j) (EqN.refl _) Hz.out, hE'⟩)
        clear hzz hE' hx2 HQ hF4 rA iA HZW HFW HEW HsW
        go_wp2_with (first
          | refine wpList_store_row rfl 38 _ _ rfl H zeroR rfl rfl 38 _ hr1 hinf hs1 hone ?_
          | refine wpList_store_row rfl 30 _ _ rfl (H + 1) #[.int .i64 0, .int .i64 0] rfl rfl 30 _ hF5 fault_info rfl honeF ?_)
        rw [hself]
        refine bodyPost_ret (v := .tuple #[.agg zeroR, .agg #[.int .i64 0, .int .i64 0]]) ?_ rfl ⟨_, _, rfl, Hend.out⟩
        exact results_row2 rfl _ _ H (H + 1) _ _ _ _ _ _ _ _ rfl rfl rr hF5 Tryz.underlying38 rfl hinf Tryz.underlying30 rfl fault_info
      have HQ := Lib.hid (QZero_any cA _ _ W zA false (by simp [hz]))
      clear zA hz
      go_wp2_with (refine wpList_load_row rfl 38 _ rfl (H + 2) rfl 38 _ (0, 0) _ rA Tryz.underlying38 rfl iA ?_)
      refine HQ.out.mono ?_
      rintro r w2 ⟨rfl, hx2⟩
      clear rA iA HQ
      obtain ⟨cA, rA, zA⟩ := HsW.out.ext hx2
      have iA : (Tryz.prog.info? 38).map (·.size) = some cA.size := by rw [zA.1]; exact zR_info
      have HZ2 := Lib.hid (HZW.out.ext hx2); have HE2 := Lib.hid (HEW.out.trans hx2)
      have HF2 := Lib.hid ((hx2.block _ (Array.getElem?_eq_some_iff.1 HFW.out).1).trans HFW.out)
      have HQ2 := Lib.hid (Qleast_any cA _ d w2 zA 108 10000 (by decide) (Hmb.out j (Nat.le_refl _)) Hd.out (by decide))
      clear zA hx2 HZW HEW HFW HsW
      go_wp2_with (refine wpList_load_row rfl 38 _ rfl (H + 2) rfl 38 _ (0, 0) _ rA Tryz.underlying38 rfl iA ?_)
      refine HQ2.out.mono ?_
      rintro r w3 ⟨cr, yy, rfl, hcr, hq3, hx3⟩
      have hF4 : w3.heap[H + 1]? = some (.cells #[.int .i64 0, .int .i64 0] 30 (0, 0)) := (hx3.block _ (Array.getElem?_eq_some_iff.1 HF2.out).1).trans HF2.out
      obtain ⟨c1, hr1, hs1, hone, hinf, rr, hzz, hE'⟩ := fin_rm hcr.val (HZ2.out.ext hx3) (HE2.out.trans hx3) (by rw [HH.out]; exact Nat.le_refl _)
      have hF5 : (w3.setRow H cr).heap[H + 1]? = some (.cells #[.int .i64 0, .int .i64 0] 30 (0, 0)) := (setRow_other w3 H (H + 1) cr (by omega)).trans hF4
      have hself := setRow_self (w3.setRow H cr) (H + 1) _ _ _ hF5
      have honeF := fault_one 0 0
      have Hend := Lib.hid (show RmA (w3.setRow H cr) cr yy 10120 10000 ∧ EqN yy (mkNm l (d : Int)) ∧ Ext w (w3.setRow H cr) from
        ⟨RmA.le ⟨hcr.anti, hcr.low, hcr.abs, hcr.down, hzz⟩ (by decide) (by decide), by rw [Hmk.out]; exact hq3, hE'⟩)
      clear hcr hq3 hzz hE' hx3 HQ2 HZ2 HE2 HF2 hF4 rA iA
      go_wp2_with (first
        | refine wpList_store_row rfl 38 _ _ rfl H cr rfl rfl 38 _ hr1 hinf hs1 hone ?_
        | refine wpList_store_row rfl 30 _ _ rfl (H + 1) #[.int .i64 0, .int .i64 0] rfl rfl 30 _ hF5 fault_info rfl honeF ?_)
      rw [hself]
      refine bodyPost_ret (v := .tuple #[.agg cr, .agg #[.int .i64 0, .int .i64 0]]) ?_ rfl ⟨_, _, rfl, Hend.out⟩
      exact results_row2 rfl _ _ H (H + 1) _ _ _ _ _ _ _ _ rfl rfl rr hF5 Tryz.underlying38 rfl hinf Tryz.underlying30 rfl fault_info
    have hlt : j < n := by omega
    have q1 : (j : Int) < (n : Int) := by omega
    have q0 : (0 : Int) ≤ (j : Int) := by omega
    obtain ⟨b, o, rfl, hbl, hcell⟩ := (Hl.out.ext hE).at (by omega)
    have y0 := hcell j hlt
    obtain ⟨v, hv⟩ : ∃ v, l.getD j 0 = v := ⟨_, rfl⟩
    rw [hv] at y0
    have hrv := Hr.out j hlt
    rw [hv] at hrv
    have wk : IntKind.i64.wrap ((j : Int) + 1) = ((j + 1 : Nat) : Int) := by have := Hn.out; rw [IntKind.wrap_i64]; omega
    have HZo := Lib.hid (fun wx => ZOf_any v hrv.1 hrv.2 wx)
    have hvb : v.natAbs < 2 ^ 64 := by omega
    have HOf := Lib.hid (fun (wx : World) (b9 : Bool) (a9 : Option Addr) (n9 c9 : Nat) (i9 : IsZ wx b9 a9 n9 c9 v) => QOf_nm b9 a9 n9 c9 v 108 0 wx i9 (Nat.lt_of_lt_of_le hvb (by decide)))
    have HTu := Lib.hid (fun (wx : World) (cf : Array Value) (hf : RmA wx cf (nOf v) 108 0) => QTurn_nm cf (nOf v) 108 0 (j : Int) wx hf (by decide))
    have HAd := Lib.hid (fun (wx : World) (hx : Ext wo wx) (ct : Array Value) (ht : RmA wx ct (nTr (j : Int) (nOf v)) 108 0) => QAdd_nm co ct _ _ 108 0 wx (hO.ext hx) ht (by decide) (by decide))
    have Hj1 := Lib.hid (show j + 1 ≤ n by omega)
    have HO := Lib.hid hO; have HZ := Lib.hid hZ; have HFl := Lib.hid hF; have HE := Lib.hid hE; have Hjk := Lib.hid hjk; have Hv := Lib.hid hv
    clear hO hZ hF hE hjk hj8 hj hlt hrv hv hcell hvb
    go_upto_region 7 with fail
    have hd0 : Ext wo wo.drew := Below.drew (Ext.refl _)
    refine wp_region_K 10 (fun w' => w'.heap[H + 2]? = some (.cells co 38 (0, 0)) ∧ w'.cell? ⟨b, o + j, none⟩ = some (.int .i64 v)) (by kernel_rfl) ?_
    show anyK _ _ _ _ _ _ 11 #[false, false, false, false, false, false, false, false, false, false, false] _ _
    have hHeld : wo.drew.heap[H + 2]? = some (.cells co 38 (0, 0)) ∧ wo.drew.cell? ⟨b, o + j, none⟩ = some (.int .i64 v) := ⟨(hd0.block _ lO).trans rO, cellKeep hd0 hbl y0⟩
    refine anyK_take (i := 0) (v := .agg co) rfl (by kernel_rfl) (by kernel_rfl) (by kernel_rfl) (N := 11) (by kernel_rfl) (by kernel_rfl) (by kernel_rfl) (fun _ _ _ h => h) (Or.inl ⟨by rfl, ?_⟩) hHeld ?_
    · intro w hSw
      exact exec_load_row 38 _ rfl (H + 2) rfl 38 _ (0, 0) _ hSw.1 Tryz.underlying38 rfl iO
    show anyK _ _ _ _ _ _ _ _ (Act.put _ (some 23) _) _
    simp only [Act.put, List.setIfInBounds_toArray, List.set_cons_zero, List.set_cons_succ]
    refine anyK_take (i := 1) (v := ?_) rfl (by kernel_rfl) (by kernel_rfl) (by kernel_rfl) (N := 11) (by kernel_rfl) (by kernel_rfl) (by kernel_rfl) (fun _ _ _ h => h) (Or.inl ⟨by rfl, ?_⟩) hHeld ?_
    rotate_left 1
    · intro w hSw
      go_simp
      try with_reducible rfl
    show anyK _ _ _ _ _ _ _ _ (Act.put _ (some 24) _) _
    simp only [Act.put, List.setIfInBounds_toArray, List.set_cons_zero, List.set_cons_succ]
    refine anyK_take (i := 2) (v := ?_) rfl (by kernel_rfl) (by kernel_rfl) (by kernel_rfl) (N := 11) (by kernel_rfl) (by kernel_rfl) (by kernel_rfl) (fun _ _ _ h => h) (Or.inl ⟨by rfl, ?_⟩) hHeld ?_
    rotate_left 1
    · intro w hSw
      go_simp
      try with_reducible rfl
    show anyK _ _ _ _ _ _ _ _ (Act.put _ (some 25) _) _
    simp only [Act.put, List.setIfInBounds_toArray, List.set_cons_zero, List.set_cons_succ]
    refine anyK_take (i := 3) (v := ?_) rfl (by kernel_rfl) (by kernel_rfl) (by kernel_rfl) (N := 11) (by kernel_rfl) (by kernel_rfl) (by kernel_rfl) (fun _ _ _ h => h) (Or.inl ⟨by rfl, ?_⟩) hHeld ?_
    rotate_left 1
    · intro w hSw
      go_simp
      try with_reducible rfl
    show anyK _ _ _ _ _ _ _ _ (Act.put _ (some 26) _) _
    simp only [Act.put, List.setIfInBounds_toArray, List.set_cons_zero, List.set_cons_succ]
    refine anyK_take (i := 4) (v := ?_) rfl (by kernel_rfl) (by kernel_rfl) (by kernel_rfl) (N := 11) (by kernel_rfl) (by kernel_rfl) (by kernel_rfl) (fun _ _ _ h => h) (Or.inl ⟨by rfl, ?_⟩) hHeld ?_
    rotate_left 1
    · intro w hSw
      go_simp
      try with_reducible rfl
    show anyK _ _ _ _ _ _ _ _ (Act.put _ (some 27) _) _
    simp only [Act.put, List.setIfInBounds_toArray, List.set_cons_zero, List.set_cons_succ]
    refine anyK_take (i := 7) (v := ?_) rfl (by kernel_rfl) (by kernel_rfl) (by kernel_rfl) (N := 11) (by kernel_rfl) (by kernel_rfl) (by kernel_rfl) (fun _ _ _ h => h) (Or.inl ⟨by rfl, ?_⟩) hHeld ?_
    rotate_left 1
    · intro w hSw
      go_simp
      try with_reducible rfl
    show anyK _ _ _ _ _ _ _ _ (Act.put _ (some 30) _) _
    simp only [Act.put, List.setIfInBounds_toArray, List.set_cons_zero, List.set_cons_succ]
    clear hHeld
    refine anyK_one (i := 5) (by kernel_rfl) rfl (fun Kk hKk => ?_)
    go_simp
    (go_at_call 46; refine (HZo.out _).mono ?_; rintro r w1 ⟨b9, a9, n9, c9, rfl, hI9, _, hxx⟩)
    have he1 := hd0.trans hxx
    go_wp2_with fail
    refine hKk.out _ _ (fun _ => ⟨(he1.block _ lO).trans rO, cellKeep he1 hbl y0⟩) ?_
    clear hKk Kk hxx
    simp only [List.setIfInBounds_toArray, List.set_cons_zero, List.set_cons_succ]
    refine anyK_one (i := 6) (by kernel_rfl) rfl (fun Kk hKk => ?_)
    go_simp
    (go_at_call 45; refine (HOf.out w1 b9 a9 n9 c9 hI9).mono ?_; rintro r w2 ⟨cf, rfl, hcf, hxx⟩)
    have he2 := he1.trans hxx
    go_wp2_with fail
    refine hKk.out _ _ (fun _ => ⟨(he2.block _ lO).trans rO, cellKeep he2 hbl y0⟩) ?_
    clear hKk Kk hxx
    simp only [List.setIfInBounds_toArray, List.set_cons_zero, List.set_cons_succ]
    refine anyK_one (i := 8) (by kernel_rfl) rfl (fun Kk hKk => ?_)
    go_simp
    (go_at_call 22; refine (HTu.out w2 cf hcf).mono ?_; rintro r w3 ⟨ct, rfl, hct, hxx⟩)
    have he3 := he2.trans hxx
    go_wp2_with fail
    refine hKk.out _ _ (fun _ => ⟨(he3.block _ lO).trans rO, cellKeep he3 hbl y0⟩) ?_
    clear hKk Kk hxx
    simp only [List.setIfInBounds_toArray, List.set_cons_zero, List.set_cons_succ]
    refine anyK_one (i := 9) (by kernel_rfl) rfl (fun Kk hKk => ?_)
    go_simp
    (go_at_call 30; refine (HAd.out w3 he3 ct hct).mono ?_; rintro r w4 ⟨cr, z, rfl, hcr, hq, hxx⟩)
    have he4 := he3.trans hxx
    go_wp2_with fail
    refine hKk.out _ _ (fun _ => ⟨(he4.block _ lO).trans rO, cellKeep he4 hbl y0⟩) ?_
    clear hKk Kk hxx
    simp only [List.setIfInBounds_toArray, List.set_cons_zero, List.set_cons_succ]
    have hO4 := HO.out.ext he4
    have r4 := (he4.block _ lO).trans rO
    have hV4 : ZVar w4 (H + 2) _ _ := ⟨co, r4, hO4.val⟩
    obtain ⟨_, hch, hrr, hzz⟩ := hcr.val.setRow hV4
    have iR := hcr.info
    have sR : co.size = cr.size := by rw [hO4.val.1, hcr.val.1]
    have oR := hcr.val.one
    have hz : z = ⟨ext8 (mkN l (j + 1)), 0⟩ := by
      have h9 : nTr (j : Int) (nOf v) = ⟨mono (j : Int) v, 0⟩ := by unfold nTr nOf; rw [tr_mono]
      rw [h9] at hq
      rw [sum_over_one hcr.down hq, ← ext8_add, ← Hv.out]
      rfl
    refine anyK_one (i := 10) (by kernel_rfl) rfl (fun Kk hKk => ?_)
    refine stepK_storeR rfl rfl 38 _ _ rfl (H + 2) cr rfl rfl 38 _ r4 iR sR oR ?_
    refine hKk.out _ _ (fun h => Bool.noConfusion (show true = false from h)) ?_
    clear hKk Kk
    simp only [List.setIfInBounds_toArray, List.set_cons_zero, List.set_cons_succ]
    refine anyK_done (by kernel_rfl) ?_ _
    have hF4 : w4.heap[H + 1]? = some (.cells #[.int .i64 0, .int .i64 0] 30 (0, 0)) := (he4.block _ (Array.getElem?_eq_some_iff.1 HFl.out).1).trans HFl.out
    have Hend := Lib.hid (show (∃ co : Array Value, (w4.setRow (H + 2) cr).heap[H + 2]? = some (.cells co 38 (0, 0)) ∧ RmA (w4.setRow (H + 2) cr) co ⟨ext8 (mkN l ((j + 1))), 0⟩ 108 0) ∧ ZVar (w4.setRow (H + 2) cr) H (fun _ => 0) 0 ∧ (w4.setRow (H + 2) cr).heap[H + 1]? = some (.cells #[.int .i64 0, .int .i64 0] 30 (0, 0)) ∧ Ext w (w4.setRow (H + 2) cr) from by
      rw [hz] at hzz
      exact ⟨⟨cr, hrr, ⟨anti_ext8 _, Or.inl rfl, Hmx.out (j + 1) Hj1.out, Nat.le_refl _, hzz⟩⟩, (HZ.out.ext he4).chz hch hV4.no (by omega), hch.row hF4 (by omega), hch.ext (HE.out.trans he4) (by rw [HH.out]; omega)⟩)
    clear hch hrr hzz hV4 r4 iR sR oR hcr hq hz he4 he3 he2 he1 hd0 HOf HZo HTu HAd HO HZ HFl HE y0 lO rO iO hO4 hct hcf hI9 hF4 hbl
    generalize w4.setRow (H + 2) cr = V at *
    go_wp2_with fail
    go_roundg (n - (j + 1))
    case measure => have := Hjk.out; have := Hj1.out; omega
    case rel => exact ⟨j + 1, rfl, Hj1.out, rfl, Hend.out⟩
end Go.Proofs.YtiicfpdiehgikaaGreatDoor
namespace Go.Proofs.YtiicfpdiehgikaaGreatDoor
open Go.RowKit

set_option maxRecDepth 100000 in
set_option maxHeartbeats 4000000 in
theorem QNorm_nm (ca : Array Value) (x : Nm) (P E : Nat) (w : World) (h1 : RmA w ca x P E) (hP : P + (P + 8 * (E + 1)) + 6 ≤ 400000) (hE : E ≤ 10000) :
    Calls Tryz.prog 40 #[.agg ca] w fun e w' => ∃ (cr : Array Value) (z : Nm), e = .returned (.agg cr) ∧ RmA w' cr z (P + (P + 8 * (E + 1)) + 6) (E + E) ∧ EqN z (nMul x (nCj x)) ∧ Ext w w' := by
  obtain ⟨H, hH⟩ : ∃ H, w.heap.size = H := ⟨_, rfl⟩
  obtain ⟨U, hU⟩ : ∃ U, ((w.alloc (.cells ca 38)).alloc (.cells zeroR 38)) = U := ⟨_, rfl⟩
  have E0 : Ext w U := by rw [← hU]; exact (Ext.alloc _ _).trans (Ext.alloc _ _)
  have hrA : U.heap[H]? = some (.cells ca 38 (0, 0)) := by rw [← hU, ← hH]; exact ((Ext.alloc _ _).block _ (Array.getElem?_eq_some_iff.1 (heap_alloc_new w (.cells ca 38))).1).trans (heap_alloc_new w _)
  have Z0 : ZVar U (H + 1) (fun _ => 0) 0 := by
    have := (zcs_zero (w.alloc (.cells ca 38))).box
    rw [← hU, ← hH]
    simpa using this
  have lA := (Array.getElem?_eq_some_iff.1 hrA).1
  have HNe := Lib.hid (fun (wx : World) (hx : Ext U wx) => QConj_nm ca x P E wx (h1.ext (E0.trans hx)) (by omega) hE)
  have HAd := Lib.hid (fun (wx : World) (hx : Ext U wx) (cn : Array Value) (xc : Nm) (hn : RmA wx cn xc (P + 8 * (E + 1)) E) => QMul_nm ca cn x xc P E (P + 8 * (E + 1)) E wx (h1.ext (E0.trans hx)) hn hP (by omega))
  have hi1 := h1.info
  have HU := Lib.hid hU; have HH := Lib.hid hH; have HZ0 := Lib.hid Z0; have HE0 := Lib.hid E0
  clear hU hH Z0 E0 h1 hP hE
  go_enter Tryz.func40, Tryz.ntmps40
  go_upto_region 1 with fail
  rw [HU.out, HH.out]
  clear HU
  have hd0 : Ext U U.drew := Below.drew (Ext.refl _)
  refine wp_region_K 4 (fun w' => w'.heap[H]? = some (.cells ca 38 (0, 0))) (by kernel_rfl) ?_
  show anyK _ _ _ _ _ _ 5 #[false, false, false, false, false] _ _
  have hHeld : U.drew.heap[H]? = some (.cells ca 38 (0, 0)) := ((hd0.block _ lA).trans hrA)
  refine anyK_take (i := 0) (v := .agg ca) rfl (by kernel_rfl) (by kernel_rfl) (by kernel_rfl) (N := 5) (by kernel_rfl) (by kernel_rfl) (by kernel_rfl) (fun _ _ _ h => h) (Or.inl ⟨by rfl, ?_⟩) hHeld ?_
  · intro w hSw
    exact exec_load_row 38 _ rfl (H) rfl 38 _ (0, 0) _ hSw Tryz.underlying38 rfl hi1
  show anyK _ _ _ _ _ _ _ _ (Act.put _ (some 3) _) _
  simp only [Act.put, List.setIfInBounds_toArray, List.set_cons_zero, List.set_cons_succ]
  refine anyK_take (i := 1) (v := .agg ca) rfl (by kernel_rfl) (by kernel_rfl) (by kernel_rfl) (N := 5) (by kernel_rfl) (by kernel_rfl) (by kernel_rfl) (fun _ _ _ h => h) (Or.inl ⟨by rfl, ?_⟩) hHeld ?_
  · intro w hSw
    exact exec_load_row 38 _ rfl (H) rfl 38 _ (0, 0) _ hSw Tryz.underlying38 rfl hi1
  show anyK _ _ _ _ _ _ _ _ (Act.put _ (some 4) _) _
  simp only [Act.put, List.setIfInBounds_toArray, List.set_cons_zero, List.set_cons_succ]
  clear hHeld
  refine anyK_one (i := 2) (by kernel_rfl) rfl (fun Kk hKk => ?_)
  go_simp
  (go_at_call 38; refine (HNe.out _ hd0).mono ?_; rintro e w1 ⟨cn, xc, rfl, hn1, hqc, hxx⟩)
  have he1 := hd0.trans hxx
  go_wp2_with fail
  refine hKk.out _ _ (fun _ => ((he1.block _ lA).trans hrA)) ?_
  clear hKk Kk hxx
  simp only [List.setIfInBounds_toArray, List.set_cons_zero, List.set_cons_succ]
  refine anyK_one (i := 3) (by kernel_rfl) rfl (fun Kk hKk => ?_)
  go_simp
  (go_at_call 34; refine (HAd.out w1 he1 cn xc hn1).mono ?_; rintro e w2 ⟨cr, z, rfl, hcr, hy, hxx⟩)
  have he2 := he1.trans hxx
  go_wp2_with fail
  refine hKk.out _ _ (fun _ => ((he2.block _ lA).trans hrA)) ?_
  clear hKk Kk hxx
  simp only [List.setIfInBounds_toArray, List.set_cons_zero, List.set_cons_succ]
  obtain ⟨c1, hr1, hs1, hone, hinf, rr, hnm, hE'⟩ := fin_rm hcr.val (HZ0.out.ext he2) (HE0.out.trans he2) (by rw [HH.out]; omega)
  have Hend := Lib.hid (show RmA (w2.setRow (H + 1) cr) cr z (P + (P + 8 * (E + 1)) + 6) (E + E) ∧ EqN z (nMul x (nCj x)) ∧ Ext w (w2.setRow (H + 1) cr) from ⟨⟨hcr.anti, hcr.low, hcr.abs, hcr.down, hnm⟩, hy.trans (EqN.mul (EqN.refl _) hqc), hE'⟩)
  clear hnm hE' hcr hy
  refine anyK_one (i := 4) (by kernel_rfl) rfl (fun Kk hKk => ?_)
  refine stepK_storeR rfl rfl 38 _ _ rfl (H + 1) cr rfl rfl 38 _ hr1 hinf hs1 hone ?_
  refine hKk.out _ _ (fun h => Bool.noConfusion (show true = false from h)) ?_
  clear hKk Kk
  simp only [List.setIfInBounds_toArray, List.set_cons_zero, List.set_cons_succ]
  refine anyK_done (by kernel_rfl) ?_ _
  go_wp2_with fail
  refine bodyPost_ret (v := .agg cr) ?_ rfl ⟨_, _, rfl, Hend.out⟩
  exact results_cell_row rfl _ _ (H + 1) _ _ _ _ rfl rr Tryz.underlying38 rfl hinf
end Go.Proofs.YtiicfpdiehgikaaGreatDoor
