/-
  The reference: products. The reference: Make where it refuses.
-/
import Derived.Test.YtiicfpdiehgikaaGreatDoorProg
import Derived.Test.YtiicfpdiehgikaaGreatDoorRows
import Derived.BigQuiet
import Derived.Deep.AppendLies
import Derived.Deep.Cut
import Derived.Deep.CutRange
import Derived.Deep.LoopGhost
import Derived.Deep.MidRow
import Derived.Deep.QuietTactic
import Derived.Deep.RegionHeld3
import Derived.Laws.Bits64b
import Derived.Laws.CopyOwn
import Derived.Laws.ResultCell
import Derived.Laws.Rows
import Derived.Lib.BitFns
import Derived.Lib.Hide
import Derived.Lib.ItoaNum
import Derived.Lib.Strings
import Derived.Lib.TrailingZeros
import Derived.OwnWalk
import Derived.Shelf.Bits.Mul64
import Derived.Shelf.LaysM
import Derived.Shelf.Small.Bits
import Derived.Shelf.Small.Wraps
import Derived.Shelf.Spec.BitsCarry
import Derived.Shelf.Spec.TrailingZeros
import Derived.Shelf.Strconv.Itoa0
import Derived.Shelf.Strconv.Itoa1
import Derived.Shelf.Strconv.Itoa2
import Derived.Shelf.Strconv.Itoa3
import Derived.Shelf.Strings.Builder1
import Derived.Shelf.Strings.BuilderF
import Derived.Shelf.Strings.BuilderK
import Derived.WalkKit
import Derived.WalkLawsBesides
import Derived.WalkSpells
import Derived.Test.YtiicfpdiehgikaaGreatDoorS00Mem
import Derived.Test.YtiicfpdiehgikaaGreatDoorShelf
import Derived.Test.YtiicfpdiehgikaaGreatDoorS02ShiftI
import Derived.Test.YtiicfpdiehgikaaGreatDoorS03GuessD
import Derived.Test.YtiicfpdiehgikaaGreatDoorS04IntB
import Derived.Test.YtiicfpdiehgikaaGreatDoorS05IntD
import Derived.Test.YtiicfpdiehgikaaGreatDoorS06GcB
import Derived.Test.YtiicfpdiehgikaaGreatDoorS07Rd
import Derived.Test.YtiicfpdiehgikaaGreatDoorS08Rl
import Derived.Test.YtiicfpdiehgikaaGreatDoorS09Ca
import Derived.Test.YtiicfpdiehgikaaGreatDoorS10Td
import Derived.Test.YtiicfpdiehgikaaGreatDoorS12Tq
import Derived.Test.YtiicfpdiehgikaaGreatDoorS13ZL
import Derived.Test.YtiicfpdiehgikaaGreatDoorS14Ue
import Derived.Test.YtiicfpdiehgikaaGreatDoorS15Uf
import Derived.Test.YtiicfpdiehgikaaGreatDoorS16Uh
namespace Go.Proofs.YtiicfpdiehgikaaGreatDoor
open Go.RowKit

section
variable {P : Program} {ops : Array Oper} {Q : Exit → Act → World → Prop}
theorem wpList_load_rowQ {rest : List Oper} {o : Oper} {a : Act} {w : World} (hw : Region.wanted o (yielded ops a.tmps) = true) (ty : TypeId) (x : Operand) (ho : o.op = .load ty x)
    (g : Nat) (hx : a.eval x = .pointer (some ⟨g, 0, none⟩)) (t : TypeId) (cs : Array Value) (fr : Nat × Nat) (d : TypeDesc) (hg : w.heap[g]? = some (.cells cs t fr))
    (hu : P.underlying ty = some d) (hd : (match d with | .struct _ | .array _ _ => true | _ => false) = true) (hi : (P.info? ty).map (·.size) = some cs.size)
    (h : wpList P ops Q rest (a.put o.dst (.agg cs)) w) : wpList P ops Q (o :: rest) a w := by
  unfold wpList
  rw [if_pos hw]
  exact Or.inl (wp_load_row ty x ho g hx t cs fr d hg hu hd hi h)
theorem anyK_two {md : Region.Mode} {k : Nat} {S : World → Prop} {i j : Nat} {o o' : Oper} {n : Nat} {l : Array Bool} {a : Act} {w : World} (hr : Region.ready md ops l = [i, j]) (ho : ops[i]? = some o) (ho' : ops[j]? = some o')
    (h : ∀ K' : Act → World → Prop, Shut (∀ a w, ((l.setIfInBounds i true).getD k true = false → S w) → anyK P md ops Q k S n (l.setIfInBounds i true) a w → K' a w) → if Region.wanted o (yielded ops a.tmps) = true then Oper.wp P o a w K' Q else K' (a.put o.dst undef) w)
    (h' : ∀ K' : Act → World → Prop, Shut (∀ a w, ((l.setIfInBounds j true).getD k true = false → S w) → anyK P md ops Q k S n (l.setIfInBounds j true) a w → K' a w) → if Region.wanted o' (yielded ops a.tmps) = true then Oper.wp P o' a w K' Q else K' (a.put o'.dst undef) w) :
    anyK P md ops Q k S (n + 1) l a w := by
  refine ⟨fun h0 => (by rw [hr] at h0; cases h0), fun t ht => ?_⟩
  rw [hr] at ht
  rcases List.mem_cons.1 ht with rfl | ht
  · exact wpOp_step ho (fun K' hK => h K' (fun a w hS hW => hK a w ⟨hS, hW⟩))
  · rcases List.mem_singleton.1 ht with rfl
    exact wpOp_step ho' (fun K' hK => h' K' (fun a w hS hW => hK a w ⟨hS, hW⟩))
end
theorem eqN_zero_mul {x y : Nm} (h : ∀ k, x.a k = 0) : EqN ⟨ext8 (fun _ => 0), 0⟩ (nMul x y) := fun k => by
  have e : mulR x.a y.a k = 0 := by simp [mulR, sum8, h]
  show ext8 (fun _ => 0) k * 2 ^ (x.e + y.e) = mulR x.a y.a k * 2 ^ 0
  rw [e, ext8_zero]; simp
theorem eqN_mul_zero {x y : Nm} (h : ∀ k, y.a k = 0) : EqN ⟨ext8 (fun _ => 0), 0⟩ (nMul x y) := fun k => by
  have e : mulR x.a y.a k = 0 := by simp [mulR, sum8, h]
  show ext8 (fun _ => 0) k * 2 ^ (x.e + y.e) = mulR x.a y.a k * 2 ^ 0
  rw [e, ext8_zero]; simp
theorem mul_part (X Y : Nat → Int) (P1 P2 : Nat) (hX : ∀ i, i < 8 → (X i).natAbs < 2 ^ P1) (hY : ∀ i, i < 8 → (Y i).natAbs < 2 ^ P2) : ∀ i j, i < 8 → j ≤ 8 → ∀ t, t < 8 → (mulN (prN X Y i) i (X i) Y j t).natAbs < 2 ^ (P1 + P2 + 6) := fun i j hi hj t ht => by
  have hp : ∀ i j, i < 8 → j < 8 → (X i * Y j).natAbs ≤ 2 ^ (P1 + P2) - 1 := fun i j hi hj => by
    have h1 := hX i hi; have h2 := hY j hj
    have h3 := Nat.mul_lt_mul'' h1 h2
    rw [Int.natAbs_mul, Nat.pow_add]
    omega
  have h1 := mulN_abs (prN X Y i) i (X i) Y (i * (8 * (2 ^ (P1 + P2) - 1))) (2 ^ (P1 + P2) - 1) (prN_abs X Y _ hp i (by omega)) (fun t ht => hp i t hi ht) j hj t ht
  have h0 : 0 < 2 ^ (P1 + P2) := Nat.pow_pos (by decide)
  have h2 : i * (8 * (2 ^ (P1 + P2) - 1)) ≤ 7 * (8 * (2 ^ (P1 + P2) - 1)) := Nat.mul_le_mul_right _ (by omega)
  have h3 : j * (2 ^ (P1 + P2) - 1) ≤ 8 * (2 ^ (P1 + P2) - 1) := Nat.mul_le_mul_right _ hj
  rw [Nat.pow_add _ (P1 + P2) 6]
  omega

set_option maxRecDepth 100000 in
set_option maxHeartbeats 4000000 in
theorem QMul_nm (ca cb : Array Value) (x y : Nm) (P1 E1 P2 E2 : Nat) (w : World) (h : RmA w ca x P1 E1) (g : RmA w cb y P2 E2) (hP : P1 + P2 + 6 ≤ 400000) (hE : E1 + E2 ≤ 1099511627776) :
    Calls Tryz.prog 34 #[.agg ca, .agg cb] w fun r w' => ∃ (cr : Array Value) (z : Nm), r = .returned (.agg cr) ∧ RmA w' cr z (P1 + P2 + 6) (E1 + E2) ∧ EqN z (nMul x y) ∧ Ext w w' := by
  obtain ⟨X, hX⟩ : ∃ X : Nat → Int, (fun i : Nat => x.a i) = X := ⟨_, rfl⟩
  obtain ⟨Y, hY⟩ : ∃ Y : Nat → Int, (fun i : Nat => y.a i) = Y := ⟨_, rfl⟩
  obtain ⟨ex, hex⟩ : ∃ ex, x.e = ex := ⟨_, rfl⟩
  obtain ⟨ey, hey⟩ : ∃ ey, y.e = ey := ⟨_, rfl⟩
  obtain ⟨es, hes⟩ : ∃ es, ex + ey = es := ⟨_, rfl⟩
  have hv := h.val; have gv := g.val
  rw [hX, hex] at hv
  rw [hY, hey] at gv
  have hXa : ∀ i, i < 8 → (X i).natAbs < 2 ^ P1 := fun i _ => by rw [← hX]; exact h.abs i
  have hYa : ∀ i, i < 8 → (Y i).natAbs < 2 ^ P2 := fun i _ => by rw [← hY]; exact g.abs i
  have hdn : ex ≤ E1 ∧ ey ≤ E2 ∧ ex + ey = es := ⟨by rw [← hex]; exact h.down, by rw [← hey]; exact g.down, hes⟩
  obtain ⟨H, hH⟩ : ∃ H, w.heap.size = H := ⟨_, rfl⟩
  obtain ⟨U, hU⟩ : ∃ U, ((w.alloc (.cells ca 38)).alloc (.cells cb 38)).alloc (.cells zeroR 38) = U := ⟨_, rfl⟩
  have E0 : Ext w U := by rw [← hU]; exact ((Ext.alloc _ _).trans (Ext.alloc _ _)).trans (Ext.alloc _ _)
  have A0 : ZVar U H X (ex : Int) := by rw [← hU, ← hH]; exact (hv.box.ext (Ext.alloc _ _)).ext (Ext.alloc _ _)
  have B0 : ZVar U (H + 1) Y (ey : Int) := by
    have := ((gv.ext (Ext.alloc w (.cells ca 38))).box).ext (Ext.alloc _ (.cells zeroR 38))
    rw [← hU, ← hH]
    simpa using this
  have Z0 : ZVar U (H + 2) (fun _ => 0) 0 := by
    have := (zcs_zero ((w.alloc (.cells ca 38)).alloc (.cells cb 38))).box
    rw [← hU, ← hH]
    simpa using this
  have HU := Lib.hid hU; have HH := Lib.hid hH; have HP := Lib.hid hP; have HEE := Lib.hid hE; have HXa := Lib.hid hXa; have HYa := Lib.hid hYa; have Hh := Lib.hid h; have Hg := Lib.hid g; have HX := Lib.hid hX; have HY := Lib.hid hY; have Hdn := Lib.hid hdn
  have Hab := Lib.hid (mul_part X Y P1 P2 hXa hYa); have Hex := Lib.hid hex; have Hey := Lib.hid hey
  have HA := Lib.hid A0; have HB := Lib.hid B0; have HZ := Lib.hid Z0; have HE := Lib.hid E0
  clear hU hH A0 B0 Z0 E0 h g hP hE hXa hYa hX hY hv gv hex hey hdn hes
  go_enter Tryz.func34, Tryz.ntmps34
  go_upto_region 1 with fail
  rw [HU.out, HH.out]
  clear HU
  obtain ⟨cA, rA, zA⟩ := HA.out
  have iA : (Tryz.prog.info? 38).map (·.size) = some cA.size := by rw [zA.1]; exact zR_info
  by_cases hx0 : zeroN X
  · have HQ := Lib.hid (QZero_any cA X _ U zA true (by simp [hx0]))
    have Hx0 := Lib.hid hx0
    clear zA hx0
    go_wp2_with (refine wpList_load_row rfl 38 _ rfl (H) rfl 38 _ (0, 0) _ rA Tryz.underlying38 rfl iA ?_)
    refine HQ.out.mono ?_
    rintro r w2 ⟨rfl, hx2⟩
    clear rA iA HQ
    obtain ⟨c1, hr1, hs1, hone, hinf, rr, hzz, hE'⟩ := fin_rm (zcs_zero w2) (HZ.out.ext hx2) (HE.out.trans hx2) (by rw [HH.out]; omega)
    have Hend := Lib.hid (show RmA (w2.setRow (H + 2) zeroR) zeroR ⟨ext8 (fun _ => 0), 0⟩ (P1 + P2 + 6) (E1 + E2) ∧ EqN ⟨ext8 (fun _ => 0), 0⟩ (nMul x y) ∧ Ext w (w2.setRow (H + 2) zeroR) from
      ⟨⟨anti_ext8 (fun _ => 0), Or.inl rfl, fun k => by rw [ext8_zero]; exact Nat.pow_pos (by decide), Nat.zero_le _, hzz.congr fun i _ => by show (0 : Int) = ext8 (fun _ => 0) (i : Int); rw [ext8_zero]⟩, eqN_zero_mul (zero_of_zeroN Hh.out.anti (by rw [HX.out]; exact Hx0.out)), hE'⟩)
    clear hzz hE'
    go_wp2_with (refine wpList_store_row rfl 38 _ _ rfl (H + 2) zeroR rfl rfl 38 _ hr1 hinf hs1 hone ?_)
    refine bodyPost_ret (v := .agg zeroR) ?_ rfl ⟨_, _, rfl, Hend.out⟩
    exact results_cell_row rfl _ _ (H + 2) _ _ _ _ rfl rr Tryz.underlying38 rfl hinf
  have HQ := Lib.hid (QZero_any cA X _ U zA false (by simp [hx0]))
  clear zA hx0
  go_wp2_with (refine wpList_load_row rfl 38 _ rfl (H) rfl 38 _ (0, 0) _ rA Tryz.underlying38 rfl iA ?_)
  refine HQ.out.mono ?_
  rintro r w2 ⟨rfl, hx2⟩
  have HA2 := Lib.hid (HA.out.ext hx2); have HB2 := Lib.hid (HB.out.ext hx2); have HZ2 := Lib.hid (HZ.out.ext hx2); have HE2 := Lib.hid (HE.out.trans hx2)
  clear HA HB HZ HE hx2 rA iA HQ
  obtain ⟨cB, rB, zB⟩ := HB2.out
  have iB : (Tryz.prog.info? 38).map (·.size) = some cB.size := by rw [zB.1]; exact zR_info
  by_cases hy0 : zeroN Y
  · have HQ := Lib.hid (QZero_any cB Y _ w2 zB true (by simp [hy0]))
    have Hy0 := Lib.hid hy0
    clear zB hy0
    go_wp2_with (refine wpList_load_rowQ rfl 38 _ rfl (H + 1) rfl 38 _ (0, 0) _ rB Tryz.underlying38 rfl iB ?_)
    refine HQ.out.mono ?_
    rintro r w3 ⟨rfl, hx3⟩
    clear rB iB HQ
    obtain ⟨c1, hr1, hs1, hone, hinf, rr, hzz, hE'⟩ := fin_rm (zcs_zero w3) (HZ2.out.ext hx3) (HE2.out.trans hx3) (by rw [HH.out]; omega)
    have Hend := Lib.hid (show RmA (w3.setRow (H + 2) zeroR) zeroR ⟨ext8 (fun _ => 0), 0⟩ (P1 + P2 + 6) (E1 + E2) ∧ EqN ⟨ext8 (fun _ => 0), 0⟩ (nMul x y) ∧ Ext w (w3.setRow (H + 2) zeroR) from
      ⟨⟨anti_ext8 (fun _ => 0), Or.inl rfl, fun k => by rw [ext8_zero]; exact Nat.pow_pos (by decide), Nat.zero_le _, hzz.congr fun i _ => by show (0 : Int) = ext8 (fun _ => 0) (i : Int); rw [ext8_zero]⟩, eqN_mul_zero (zero_of_zeroN Hg.out.anti (by rw [HY.out]; exact Hy0.out)), hE'⟩)
    clear hzz hE'
    go_wp2_with (refine wpList_store_row rfl 38 _ _ rfl (H + 2) zeroR rfl rfl 38 _ hr1 hinf hs1 hone ?_)
    refine bodyPost_ret (v := .agg zeroR) ?_ rfl ⟨_, _, rfl, Hend.out⟩
    exact results_cell_row rfl _ _ (H + 2) _ _ _ _ rfl rr Tryz.underlying38 rfl hinf
  have HQ := Lib.hid (QZero_any cB Y _ w2 zB false (by simp [hy0]))
  clear zB hy0
  go_wp2_with (refine wpList_load_rowQ rfl 38 _ rfl (H + 1) rfl 38 _ (0, 0) _ rB Tryz.underlying38 rfl iB ?_)
  refine HQ.out.mono ?_
  rintro r w3 ⟨rfl, hx3⟩
  have eA := hx3.trans (Ext.alloc w3 (.cells zeroR 38))
  have O0 := (zcs_zero w3).box
  have hO : H + 2 < w3.heap.size := Nat.lt_of_lt_of_le HZ2.out.lt hx3.size
  obtain ⟨O, hOO⟩ : ∃ O, w3.heap.size = O := ⟨_, rfl⟩
  obtain ⟨U2, hU2⟩ : ∃ U2, w3.alloc (.cells zeroR 38) = U2 := ⟨_, rfl⟩
  rw [hU2] at eA O0
  rw [hOO] at O0 hO
  have hA2 := HA2.out.ext eA; have hB2 := HB2.out.ext eA; have hZ2 := HZ2.out.ext eA
  have x16 := hA2.gete.1; have x17 := hB2.gete.1
  have y16 := O0.gete.1; have g16 := O0.gete.2
  have wE : IntKind.i64.wrap ((ex : Int) + (ey : Int)) = (es : Int) := by have := Hdn.out; have := HEE.out; rw [IntKind.wrap_i64]; omega
  obtain ⟨hs, hch⟩ := O0.sete (es : Int)
  have Hst := Lib.hid (show ZVar (U2.setCell ⟨O, 16, none⟩ (.int .i64 (es : Int))) O (prN X Y 0) (es : Int) ∧ ZVar (U2.setCell ⟨O, 16, none⟩ (.int .i64 (es : Int))) H X (ex : Int) ∧ ZVar (U2.setCell ⟨O, 16, none⟩ (.int .i64 (es : Int))) (H + 1) Y (ey : Int) ∧ ZVar (U2.setCell ⟨O, 16, none⟩ (.int .i64 (es : Int))) (H + 2) (fun _ => 0) 0 ∧ Ext w (U2.setCell ⟨O, 16, none⟩ (.int .i64 (es : Int))) from
    ⟨hs, hA2.chz hch O0.no (by omega), hB2.chz hch O0.no (by omega), hZ2.chz hch O0.no (by omega), hch.ext (HE2.out.trans eA) (by rw [HH.out]; omega)⟩)
  have HU2 := Lib.hid hU2; have HOO := Lib.hid hOO; have HO := Lib.hid hO
  clear hs hch hA2 hB2 hZ2 O0 eA hU2 hOO hO HA2 HB2 HZ2 HE2 hx3 HQ rB iB
  go_upto_region 4 with fail
  rw [HU2.out, HOO.out]
  clear HU2 HOO
  go_wp2_with fail
  clear x16 x17 y16 g16 wE
  generalize U2.setCell ⟨O, 16, none⟩ (.int .i64 (es : Int)) = V at *
  go_loopg [6, 7, 8] 8 (fun kk s6 s7 s8 wr => ∃ i : Nat, s6 = .int .i64 (i : Int) ∧ i ≤ 8 ∧ 8 - i = kk ∧ ZVar wr O (prN X Y i) (es : Int) ∧ ZVar wr H X (ex : Int) ∧ ZVar wr (H + 1) Y (ey : Int) ∧ ZVar wr (H + 2) (fun _ => 0) 0 ∧ Ext w wr)
  case atStart => exact ⟨0, rfl, by omega, by omega, Hst.out⟩
  case round =>
    clear Hst
    obtain ⟨i, rfl, hi, hik, hV⟩ := hrel
    obtain ⟨wo, rfl⟩ : ∃ wo : World, wo = wr := ⟨_, rfl⟩
    by_cases hi8 : i = 8
    · subst hi8
      obtain ⟨cA, rA, zA⟩ := hV.1
      have iA : (Tryz.prog.info? 38).map (·.size) = some cA.size := by rw [zA.1]; exact zR_info
      have HV := Lib.hid hV
      have HQ2 := Lib.hid (Qleast_any cA _ es wo zA (P1 + P2 + 6) (E1 + E2) HP.out (fun i hi => Hab.out 7 8 (by omega) (by omega) i hi) (by have := Hdn.out; omega) HEE.out)
      clear zA hV hik hi
      go_wp2_with (refine wpList_load_row rfl 38 _ rfl (O) rfl 38 _ (0, 0) _ rA Tryz.underlying38 rfl iA ?_)
      refine HQ2.out.mono ?_
      rintro r w3 ⟨cr, yy, rfl, hcr, hq3, hx3⟩
      obtain ⟨c1, hr1, hs1, hone, hinf, rr, hzz, hE'⟩ := fin_rm hcr.val (HV.out.2.2.2.1.ext hx3) (HV.out.2.2.2.2.trans hx3) (by rw [HH.out]; omega)
      have Hend := Lib.hid (show RmA (w3.setRow (H + 2) cr) cr yy (P1 + P2 + 6) (E1 + E2) ∧ EqN yy (nMul x y) ∧ Ext w (w3.setRow (H + 2) cr) from
        ⟨⟨hcr.anti, hcr.low, hcr.abs, hcr.down, hzz⟩, hq3.trans (EqN.of_eq (by
          rw [ext8_prN, ← HX.out, ← HY.out, ext8_of Hh.out.anti, ext8_of Hg.out.anti, ← Hdn.out.2.2, ← Hex.out, ← Hey.out]; rfl)), hE'⟩)
      clear hcr hq3 hzz hE' hx3 HQ2 HV rA iA
      go_wp2_with (refine wpList_store_row rfl 38 _ _ rfl (H + 2) cr rfl rfl 38 _ hr1 hinf hs1 hone ?_)
      refine bodyPost_ret (v := .agg cr) ?_ rfl ⟨_, _, rfl, Hend.out⟩
      exact results_cell_row rfl _ _ (H + 2) _ _ _ _ rfl rr Tryz.underlying38 rfl hinf
    have hi7 : i < 8 := by omega
    have q1 : (i : Int) < 8 := by omega
    have q0 : (0 : Int) ≤ (i : Int) := by omega
    have wki : IntKind.i64.wrap ((i : Int) + 1) = ((i + 1 : Nat) : Int) := by rw [IntKind.wrap_i64]; omega
    have Hi1 := Lib.hid (show i + 1 ≤ 8 by omega); have Hi7 := Lib.hid hi7; have Hik := Lib.hid hik
    have Hst := Lib.hid hV
    clear hV hi hi8 hi7 hik
    go_wp2_with fail
    clear q1
    go_loopg [7, 8] 8 (fun kk s7 s8 wr => ∃ j : Nat, s7 = .int .i64 (j : Int) ∧ j ≤ 8 ∧ 8 - j = kk ∧ ZVar wr O (mulN (prN X Y i) i (X i) Y j) (es : Int) ∧ ZVar wr H X (ex : Int) ∧ ZVar wr (H + 1) Y (ey : Int) ∧ ZVar wr (H + 2) (fun _ => 0) 0 ∧ Ext w wr)
    case atStart => exact ⟨0, rfl, by omega, by omega, Hst.out⟩
    case round =>
      clear Hst
      obtain ⟨j, rfl, hj, hjk, hV⟩ := hrel
      obtain ⟨wo, rfl⟩ : ∃ wo : World, wo = wr := ⟨_, rfl⟩
      by_cases hj8 : j = 8
      · subst hj8
        have Hend := Lib.hid hV
        clear hV hj hjk
        go_wp2_with fail
        go_roundg (8 - (i + 1))
        case measure => have := Hik.out; have := Hi1.out; omega
        case rel => exact ⟨i + 1, rfl, Hi1.out, rfl, Hend.out⟩
      have hlt : j < 8 := by omega
      have q1 : (i : Int) < 8 := by have := Hi7.out; omega
      have q2 : (j : Int) < 8 := by omega
      have q3 : (0 : Int) ≤ (j : Int) := by omega
      have wk : IntKind.i64.wrap ((j : Int) + 1) = ((j + 1 : Nat) : Int) := by rw [IntKind.wrap_i64]; omega
      have Hj1 := Lib.hid (show j + 1 ≤ 8 by omega); have Hlt := Lib.hid hlt; have Hjk := Lib.hid hjk
      obtain ⟨b1, a1, n1, c1, y0, y1, _, _, hI1⟩ := hV.2.1.get i Hi7.out
      obtain ⟨b2, a2, n2, c2, l0, l1, _, _, hI2⟩ := hV.2.2.1.get j hlt
      have Hstep0 := Lib.hid (show X i * Y j = 0 → ∀ t, mulN (prN X Y i) i (X i) Y j t = mulN (prN X Y i) i (X i) Y (j + 1) t from fun e t => by
        simp only [mulN, e]; exact addN_zero _ _ _)
      have HV := Lib.hid hV
      clear hV hj8 hj hlt hjk
      by_cases hn1 : n1 = 0
      · have q4 : ¬ (0 : Int) < (n1 : Int) := by omega
        have Hz := Lib.hid (show X i * Y j = 0 by rw [hI1.nil_iff.1 hn1]; simp)
        clear hn1 hI1 hI2
        go_wp2_with fail
        go_roundg (8 - (j + 1))
        case measure => have := Hjk.out; have := Hj1.out; omega
        case rel => exact ⟨j + 1, rfl, Hj1.out, rfl, HV.out.1.congr fun t _ => Hstep0.out Hz.out t, HV.out.2⟩
      have q4 : (0 : Int) < (n1 : Int) := by omega
      clear hn1
      by_cases hn2 : n2 = 0
      · have q5 : ¬ (0 : Int) < (n2 : Int) := by omega
        have Hz := Lib.hid (show X i * Y j = 0 by rw [hI2.nil_iff.1 hn2]; simp)
        clear hn2 hI1 hI2
        go_wp2_with fail
        go_roundg (8 - (j + 1))
        case measure => have := Hjk.out; have := Hj1.out; omega
        case rel => exact ⟨j + 1, rfl, Hj1.out, rfl, HV.out.1.congr fun t _ => Hstep0.out Hz.out t, HV.out.2⟩
      have q5 : (0 : Int) < (n2 : Int) := by omega
      have q5n : 0 < n2 := by omega
      clear hn2 Hstep0
      have hb1 : n1 ≤ P1 := hI1.bits (HXa.out i Hi7.out)
      have hb2 : n2 ≤ P2 := hI2.bits (HYa.out j Hlt.out)
      have HMu := Lib.hid (fun wx (hx : Ext wo wx) => ZMul_any b1 b2 a1 a2 n1 c1 n2 c2 (X i) (Y j) wx (hI1.ext hx) (hI2.ext hx) (by have := HP.out; omega) (by have := HP.out; omega))
      have Hnn := Lib.hid (show n1 + n2 + 1 ≤ P1 + P2 + 1 by omega)
      have lH := HV.out.2.1.lt; have lB := HV.out.2.2.1.lt
      clear hI1 hI2 hb1 hb2
      go_upto_region 12 with fail
      go_cut [8] from 47 to 55 (fun s8 wx => ∃ (G : Nat) (b3 : Bool) (a3 : Option Addr) (n3 c3 : Nat), s8 = .pointer (some ⟨G, 0, none⟩) ∧ ZBx wx G b3 a3 n3 c3 ∧ IsZ wx b3 a3 n3 c3 (X i * Y j) ∧ n3 ≤ P1 + P2 + 1 ∧ ZVar wx O (mulN (prN X Y i) i (X i) Y j) (es : Int) ∧ ZVar wx H X (ex : Int) ∧ ZVar wx (H + 1) Y (ey : Int) ∧ ZVar wx (H + 2) (fun _ => 0) 0 ∧ Ext w wx)
      case first =>
        clear q4 q5 q5n
        have hd0 : Ext wo wo.drew := Below.drew (Ext.refl _)
        have hdz : wo.heap.size ≤ wo.drew.heap.size := hd0.size
        refine wp_region_K 10 (fun w' => (w'.cell? ⟨H, i * 2, none⟩ = some (.bool b1) ∧ w'.cell? ⟨H, i * 2 + 1, none⟩ = some (.slice a1 n1 c1)) ∧ w'.cell? ⟨H + 1, j * 2, none⟩ = some (.bool b2) ∧ w'.cell? ⟨H + 1, j * 2 + 1, none⟩ = some (.slice a2 n2 c2)) (by kernel_rfl) ?_
        show anyK _ _ _ _ _ _ 11 #[false, false, false, false, false, false, false, false, false, false, false] _ _
        have hHeld : (wo.drew.cell? ⟨H, i * 2, none⟩ = some (.bool b1) ∧ wo.drew.cell? ⟨H, i * 2 + 1, none⟩ = some (.slice a1 n1 c1)) ∧ wo.drew.cell? ⟨H + 1, j * 2, none⟩ = some (.bool b2) ∧ wo.drew.cell? ⟨H + 1, j * 2 + 1, none⟩ = some (.slice a2 n2 c2) := ⟨⟨cellKeep hd0 lH y0, cellKeep hd0 lH y1⟩, cellKeep hd0 lB l0, cellKeep hd0 lB l1⟩
        refine anyK_take (i := 0) (v := ?_) rfl (by kernel_rfl) (by kernel_rfl) (by kernel_rfl) (N := 11) (by kernel_rfl) (by kernel_rfl) (by kernel_rfl) (fun _ _ _ h => h) (Or.inl ⟨by rfl, ?_⟩) hHeld ?_
        rotate_left 1
        · intro w hSw
          go_simp
          try with_reducible rfl
        show anyK _ _ _ _ _ _ _ _ (Act.put _ (some 47) _) _
        simp only [Act.put, List.setIfInBounds_toArray, List.set_cons_zero, List.set_cons_succ]
        refine anyK_take (i := 1) (v := ?_) rfl (by kernel_rfl) (by kernel_rfl) (by kernel_rfl) (N := 11) (by kernel_rfl) (by kernel_rfl) (by kernel_rfl) (fun _ _ _ h => h) (Or.inl ⟨by rfl, ?_⟩) hHeld ?_
        rotate_left 1
        · intro w hSw
          go_simp
          try with_reducible rfl
        show anyK _ _ _ _ _ _ _ _ (Act.put _ (some 48) _) _
        simp only [Act.put, List.setIfInBounds_toArray, List.set_cons_zero, List.set_cons_succ]
        refine anyK_take (i := 2) (v := ?_) rfl (by kernel_rfl) (by kernel_rfl) (by kernel_rfl) (N := 11) (by kernel_rfl) (by kernel_rfl) (by kernel_rfl) (fun _ _ _ h => h) (Or.inl ⟨by rfl, ?_⟩) hHeld ?_
        rotate_left 1
        · intro w hSw
          go_simp
          try with_reducible rfl
        show anyK _ _ _ _ _ _ _ _ (Act.put _ (some 49) _) _
        simp only [Act.put, List.setIfInBounds_toArray, List.set_cons_zero, List.set_cons_succ]
        refine anyK_take (i := 3) (v := ?_) rfl (by kernel_rfl) (by kernel_rfl) (by kernel_rfl) (N := 11) (by kernel_rfl) (by kernel_rfl) (by kernel_rfl) (fun _ _ _ h => h) (Or.inl ⟨by rfl, ?_⟩) hHeld ?_
        rotate_left 1
        · intro w hSw
          go_simp
          try with_reducible rfl
        show anyK _ _ _ _ _ _ _ _ (Act.put _ (some 50) _) _
        simp only [Act.put, List.setIfInBounds_toArray, List.set_cons_zero, List.set_cons_succ]
        refine anyK_take (i := 4) (v := ?_) rfl (by kernel_rfl) (by kernel_rfl) (by kernel_rfl) (N := 11) (by kernel_rfl) (by kernel_rfl) (by kernel_rfl) (fun _ _ _ h => h) (Or.inl ⟨by rfl, ?_⟩) hHeld ?_
        rotate_left 1
        · intro w hSw
          go_simp
          try with_reducible rfl
        show anyK _ _ _ _ _ _ _ _ (Act.put _ (some 51) _) _
        simp only [Act.put, List.setIfInBounds_toArray, List.set_cons_zero, List.set_cons_succ]
        refine anyK_take (i := 5) (v := ?_) rfl (by kernel_rfl) (by kernel_rfl) (by kernel_rfl) (N := 11) (by kernel_rfl) (by kernel_rfl) (by kernel_rfl) (fun _ _ _ h => h) (Or.inl ⟨by rfl, ?_⟩) hHeld ?_
        rotate_left 1
        · intro w hSw
          go_simp
          try with_reducible rfl
        show anyK _ _ _ _ _ _ _ _ (Act.put _ (some 52) _) _
        simp only [Act.put, List.setIfInBounds_toArray, List.set_cons_zero, List.set_cons_succ]
        refine anyK_take (i := 6) (v := ?_) rfl (by kernel_rfl) (by kernel_rfl) (by kernel_rfl) (N := 11) (by kernel_rfl) (by kernel_rfl) (by kernel_rfl) (fun _ _ _ h => h) (Or.inl ⟨by rfl, ?_⟩) hHeld ?_
        rotate_left 1
        · intro w hSw
          go_simp
          try with_reducible rfl
        show anyK _ _ _ _ _ _ _ _ (Act.put _ (some 53) _) _
        simp only [Act.put, List.setIfInBounds_toArray, List.set_cons_zero, List.set_cons_succ]
        refine anyK_take (i := 7) (v := ?_) rfl (by kernel_rfl) (by kernel_rfl) (by kernel_rfl) (N := 11) (by kernel_rfl) (by kernel_rfl) (by kernel_rfl) (fun _ _ _ h => h) (Or.inl ⟨by rfl, ?_⟩) hHeld ?_
        rotate_left 1
        · intro w hSw
          go_simp
          try with_reducible rfl
        show anyK _ _ _ _ _ _ _ _ (Act.put _ (some 54) _) _
        simp only [Act.put, List.setIfInBounds_toArray, List.set_cons_zero, List.set_cons_succ]
        clear hHeld
        refine anyK_two (i := 8) (j := 9) (by kernel_rfl) rfl rfl (fun Kk hKk => ?_) (fun Kk hKk => ?_)
        · go_simp
          (go_at_call 82; refine (HMu.out wo.drew hd0).mono ?_; rintro e w3 ⟨b3, a3, n3, c3, rfl, hI3, hn3, hx3⟩)
          have he3 := hd0.trans hx3
          go_wp2_with fail
          refine hKk.out _ _ (fun _ => ⟨⟨cellKeep he3 lH y0, cellKeep he3 lH y1⟩, cellKeep he3 lB l0, cellKeep he3 lB l1⟩) ?_
          clear hKk Kk
          simp only [List.setIfInBounds_toArray, List.set_cons_zero, List.set_cons_succ]
          have eP := Ext.alloc w3 (.cells #[.bool false, .slice none 0 0] 35)
          have bx := zbx_new w3 false none 0 0
          have he4 := he3.trans eP
          have hI4 := hI3.ext eP
          have hG : wo.heap.size ≤ w3.heap.size := he3.size
          refine anyK_one (i := 9) (by kernel_rfl) rfl (fun Kk hKk => ?_)
          go_wp2_with fail
          refine hKk.out _ _ (fun _ => ⟨⟨cellKeep he4 lH y0, cellKeep he4 lH y1⟩, cellKeep he4 lB l0, cellKeep he4 lB l1⟩) ?_
          clear hKk Kk
          simp only [List.setIfInBounds_toArray, List.set_cons_zero, List.set_cons_succ]
          generalize w3.alloc (.cells #[.bool false, .slice none 0 0] 35) = w4 at *
          generalize w3.heap.size = G at *
          refine anyK_one (i := 10) (by kernel_rfl) rfl (fun Kk hKk => ?_)
          refine stepK_storeZ rfl rfl _ _ rfl G 0 b3 a3 n3 c3 _ _ rfl rfl bx.c0 bx.c1 (bx.f 0) (bx.f 1) ?_
          refine hKk.out _ _ (fun h => Bool.noConfusion (show true = false from h)) ?_
          clear hKk Kk
          simp only [List.setIfInBounds_toArray, List.set_cons_zero, List.set_cons_succ]
          refine anyK_done (by kernel_rfl) ?_ _
          have hB3 := bx.own b3 a3 n3 c3
          have hch := ChZ.of_only (put2_only w4 G 0 1 (.bool b3) (.slice a3 n3 c3))
          have hno : NoI w4 G := ⟨_, _, _, bx.row, by decide⟩
          have hI5 := hI4.chz hch hno
          have hWo := hch.ext he4 hG
          have hn5 : n3 ≤ P1 + P2 + 1 := by have := Hnn.out; omega
          generalize ((w4.setCell ⟨G, 0, none⟩ (.bool b3)).setCell ⟨G, 1, none⟩ (.slice a3 n3 c3)) = W at *
          have Hend := Lib.hid (And.intro hB3 (And.intro hI5 (And.intro hn5 (show ZVar W O (mulN (prN X Y i) i (X i) Y j) (es : Int) ∧ ZVar W H X (ex : Int) ∧ ZVar W (H + 1) Y (ey : Int) ∧ ZVar W (H + 2) (fun _ => 0) 0 ∧ Ext w W from ⟨HV.out.1.ext hWo, HV.out.2.1.ext hWo, HV.out.2.2.1.ext hWo, HV.out.2.2.2.1.ext hWo, HV.out.2.2.2.2.trans hWo⟩))))
          clear hB3 hI5 hn5 hWo hno hch
          go_wp2_with fail
          go_meet
          exact ⟨G, b3, a3, n3, c3, rfl, Hend.out⟩
        · have heP : Ext wo (wo.alloc (.cells #[.bool false, .slice none 0 0] 35)).drew := Below.drew (Ext.alloc wo _)
          have hdr : Ext (wo.alloc (.cells #[.bool false, .slice none 0 0] 35)) (wo.alloc (.cells #[.bool false, .slice none 0 0] 35)).drew := Below.drew (Ext.refl _)
          have bx0 := (zbx_new wo false none 0 0).ext hdr
          go_wp2_with fail
          refine hKk.out _ _ (fun _ => ⟨⟨cellKeep heP lH y0, cellKeep heP lH y1⟩, cellKeep heP lB l0, cellKeep heP lB l1⟩) ?_
          clear hKk Kk
          simp only [List.setIfInBounds_toArray, List.set_cons_zero, List.set_cons_succ]
          obtain ⟨wA, hwA⟩ : ∃ wA, (wo.alloc (.cells #[.bool false, .slice none 0 0] 35)).drew = wA := ⟨_, rfl⟩
          obtain ⟨G, hGG⟩ : ∃ G, wo.heap.size = G := ⟨_, rfl⟩
          rw [hwA, hGG]
          rw [hwA] at heP bx0
          rw [hGG] at bx0
          have hG : wo.heap.size ≤ G := by rw [hGG]; exact Nat.le_refl _
          clear hwA hGG hdr
          refine anyK_one (i := 8) (by kernel_rfl) rfl (fun Kk hKk => ?_)
          go_simp
          (go_at_call 82; refine (HMu.out wA heP).mono ?_; rintro e w4 ⟨b3, a3, n3, c3, rfl, hI4, hn3, hx4⟩)
          have he4 := heP.trans hx4
          have bx := bx0.ext hx4
          go_wp2_with fail
          refine hKk.out _ _ (fun _ => ⟨⟨cellKeep he4 lH y0, cellKeep he4 lH y1⟩, cellKeep he4 lB l0, cellKeep he4 lB l1⟩) ?_
          clear hKk Kk
          simp only [List.setIfInBounds_toArray, List.set_cons_zero, List.set_cons_succ]
          refine anyK_one (i := 10) (by kernel_rfl) rfl (fun Kk hKk => ?_)
          refine stepK_storeZ rfl rfl _ _ rfl G 0 b3 a3 n3 c3 _ _ rfl rfl bx.c0 bx.c1 (bx.f 0) (bx.f 1) ?_
          refine hKk.out _ _ (fun h => Bool.noConfusion (show true = false from h)) ?_
          clear hKk Kk
          simp only [List.setIfInBounds_toArray, List.set_cons_zero, List.set_cons_succ]
          refine anyK_done (by kernel_rfl) ?_ _
          have hB3 := bx.own b3 a3 n3 c3
          have hch := ChZ.of_only (put2_only w4 G 0 1 (.bool b3) (.slice a3 n3 c3))
          have hno : NoI w4 G := ⟨_, _, _, bx.row, by decide⟩
          have hI5 := hI4.chz hch hno
          have hWo := hch.ext he4 hG
          have hn5 : n3 ≤ P1 + P2 + 1 := by have := Hnn.out; omega
          generalize ((w4.setCell ⟨G, 0, none⟩ (.bool b3)).setCell ⟨G, 1, none⟩ (.slice a3 n3 c3)) = W at *
          have Hend := Lib.hid (And.intro hB3 (And.intro hI5 (And.intro hn5 (show ZVar W O (mulN (prN X Y i) i (X i) Y j) (es : Int) ∧ ZVar W H X (ex : Int) ∧ ZVar W (H + 1) Y (ey : Int) ∧ ZVar W (H + 2) (fun _ => 0) 0 ∧ Ext w W from ⟨HV.out.1.ext hWo, HV.out.2.1.ext hWo, HV.out.2.2.1.ext hWo, HV.out.2.2.2.1.ext hWo, HV.out.2.2.2.2.trans hWo⟩))))
          clear hB3 hI5 hn5 hWo hno hch
          go_wp2_with fail
          go_meet
          exact ⟨G, b3, a3, n3, c3, rfl, Hend.out⟩
      case rest =>
      obtain ⟨G, b3, a3, n3, c3, rfl, hB3, hI3, hn3, hV3⟩ := hcut
      obtain ⟨W, rfl⟩ : ∃ W : World, W = wc := ⟨_, rfl⟩
      clear HMu HV y0 y1 l0 l1 lH lB q4 q5 q5n
      have HV := Lib.hid hV3; have HI3 := Lib.hid hI3; have Hn3 := Lib.hid hn3
      have l0 := hB3.c0; have l1 := hB3.c1; have lG := hB3.lt
      clear hV3 hI3 hn3 hB3
      have lO := HV.out.1.lt
      obtain ⟨k, hk⟩ : ∃ k, i + j = k := ⟨_, rfl⟩
      have wij : IntKind.i64.wrap ((i : Int) + (j : Int)) = (k : Int) := by have := Hi7.out; rw [IntKind.wrap_i64]; omega
      by_cases hk8 : k < 8
      · have q6 : (k : Int) < 8 := by omega
        have q7 : (0 : Int) ≤ (k : Int) := by omega
        obtain ⟨m, rfl⟩ : ∃ m, m = k := ⟨_, rfl⟩
        obtain ⟨b4, a4, n4, c4, y0, y1, _, _, hI4⟩ := HV.out.1.get m hk8
        have hn4 : n4 ≤ P1 + P2 + 6 := hI4.bits (Hab.out i j Hi7.out (by have := Hlt.out; omega) m hk8)
        have Hm8 := Lib.hid hk8; have Hk := Lib.hid hk
        clear hk hk8
        have HAd := Lib.hid (fun wx (hx : Ext W wx) => ZAdd_any b4 b3 a4 a3 n4 c4 n3 c3 (mulN (prN X Y i) i (X i) Y j m) (X i * Y j) wx (hI4.ext hx) (HI3.out.ext hx) (by have := HP.out; omega) (by have := HP.out; have := Hn3.out; omega))
        clear hI4 hn4
        go_upto_region 14 with fail
        have hd0 : Ext W W.drew := Below.drew (Ext.refl _)
        refine wp_region_K 13 (fun w' => (w'.cell? ⟨O, m * 2, none⟩ = some (.bool b4) ∧ w'.cell? ⟨O, m * 2 + 1, none⟩ = some (.slice a4 n4 c4)) ∧ w'.cell? ⟨G, 0, none⟩ = some (.bool b3) ∧ w'.cell? ⟨G, 1, none⟩ = some (.slice a3 n3 c3)) (by kernel_rfl) ?_
        show anyK _ _ _ _ _ _ 14 #[false, false, false, false, false, false, false, false, false, false, false, false, false, false] _ _
        have hHeld : (W.drew.cell? ⟨O, m * 2, none⟩ = some (.bool b4) ∧ W.drew.cell? ⟨O, m * 2 + 1, none⟩ = some (.slice a4 n4 c4)) ∧ W.drew.cell? ⟨G, 0, none⟩ = some (.bool b3) ∧ W.drew.cell? ⟨G, 1, none⟩ = some (.slice a3 n3 c3) := ⟨⟨cellKeep hd0 lO y0, cellKeep hd0 lO y1⟩, cellKeep hd0 lG l0, cellKeep hd0 lG l1⟩
        refine anyK_take (i := 0) (v := ?_) rfl (by kernel_rfl) (by kernel_rfl) (by kernel_rfl) (N := 14) (by kernel_rfl) (by kernel_rfl) (by kernel_rfl) (fun _ _ _ h => h) (Or.inl ⟨by rfl, ?_⟩) hHeld ?_
        rotate_left 1
        · intro w hSw
          go_simp
          try with_reducible rfl
        show anyK _ _ _ _ _ _ _ _ (Act.put _ (some 60) _) _
        simp only [Act.put, List.setIfInBounds_toArray, List.set_cons_zero, List.set_cons_succ]
        refine anyK_take (i := 1) (v := ?_) rfl (by kernel_rfl) (by kernel_rfl) (by kernel_rfl) (N := 14) (by kernel_rfl) (by kernel_rfl) (by kernel_rfl) (fun _ _ _ h => h) (Or.inl ⟨by rfl, ?_⟩) hHeld ?_
        rotate_left 1
        · intro w hSw
          go_simp
          try with_reducible rfl
        show anyK _ _ _ _ _ _ _ _ (Act.put _ (some 61) _) _
        simp only [Act.put, List.setIfInBounds_toArray, List.set_cons_zero, List.set_cons_succ]
        refine anyK_take (i := 2) (v := ?_) rfl (by kernel_rfl) (by kernel_rfl) (by kernel_rfl) (N := 14) (by kernel_rfl) (by kernel_rfl) (by kernel_rfl) (fun _ _ _ h => h) (Or.inl ⟨by rfl, ?_⟩) hHeld ?_
        rotate_left 1
        · intro w hSw
          go_simp
          try with_reducible rfl
        show anyK _ _ _ _ _ _ _ _ (Act.put _ (some 62) _) _
        simp only [Act.put, List.setIfInBounds_toArray, List.set_cons_zero, List.set_cons_succ]
        refine anyK_take (i := 3) (v := ?_) rfl (by kernel_rfl) (by kernel_rfl) (by kernel_rfl) (N := 14) (by kernel_rfl) (by kernel_rfl) (by kernel_rfl) (fun _ _ _ h => h) (Or.inl ⟨by rfl, ?_⟩) hHeld ?_
        rotate_left 1
        · intro w hSw
          go_simp
          try with_reducible rfl
        show anyK _ _ _ _ _ _ _ _ (Act.put _ (some 63) _) _
        simp only [Act.put, List.setIfInBounds_toArray, List.set_cons_zero, List.set_cons_succ]
        refine anyK_take (i := 4) (v := ?_) rfl (by kernel_rfl) (by kernel_rfl) (by kernel_rfl) (N := 14) (by kernel_rfl) (by kernel_rfl) (by kernel_rfl) (fun _ _ _ h => h) (Or.inl ⟨by rfl, ?_⟩) hHeld ?_
        rotate_left 1
        · intro w hSw
          go_simp
          try with_reducible rfl
        show anyK _ _ _ _ _ _ _ _ (Act.put _ (some 64) _) _
        simp only [Act.put, List.setIfInBounds_toArray, List.set_cons_zero, List.set_cons_succ]
        refine anyK_take (i := 5) (v := ?_) rfl (by kernel_rfl) (by kernel_rfl) (by kernel_rfl) (N := 14) (by kernel_rfl) (by kernel_rfl) (by kernel_rfl) (fun _ _ _ h => h) (Or.inl ⟨by rfl, ?_⟩) hHeld ?_
        rotate_left 1
        · intro w hSw
          go_simp
          try with_reducible rfl
        show anyK _ _ _ _ _ _ _ _ (Act.put _ (some 65) _) _
        simp only [Act.put, List.setIfInBounds_toArray, List.set_cons_zero, List.set_cons_succ]
        refine anyK_take (i := 6) (v := ?_) rfl (by kernel_rfl) (by kernel_rfl) (by kernel_rfl) (N := 14) (by kernel_rfl) (by kernel_rfl) (by kernel_rfl) (fun _ _ _ h => h) (Or.inl ⟨by rfl, ?_⟩) hHeld ?_
        rotate_left 1
        · intro w hSw
          go_simp
          try with_reducible rfl
        show anyK _ _ _ _ _ _ _ _ (Act.put _ (some 66) _) _
        simp only [Act.put, List.setIfInBounds_toArray, List.set_cons_zero, List.set_cons_succ]
        refine anyK_take (i := 7) (v := ?_) rfl (by kernel_rfl) (by kernel_rfl) (by kernel_rfl) (N := 14) (by kernel_rfl) (by kernel_rfl) (by kernel_rfl) (fun _ _ _ h => h) (Or.inl ⟨by rfl, ?_⟩) hHeld ?_
        rotate_left 1
        · intro w hSw
          go_simp
          try with_reducible rfl
        show anyK _ _ _ _ _ _ _ _ (Act.put _ (some 67) _) _
        simp only [Act.put, List.setIfInBounds_toArray, List.set_cons_zero, List.set_cons_succ]
        refine anyK_take (i := 8) (v := ?_) rfl (by kernel_rfl) (by kernel_rfl) (by kernel_rfl) (N := 14) (by kernel_rfl) (by kernel_rfl) (by kernel_rfl) (fun _ _ _ h => h) (Or.inl ⟨by rfl, ?_⟩) hHeld ?_
        rotate_left 1
        · intro w hSw
          go_simp
          try with_reducible rfl
        show anyK _ _ _ _ _ _ _ _ (Act.put _ (some 68) _) _
        simp only [Act.put, List.setIfInBounds_toArray, List.set_cons_zero, List.set_cons_succ]
        refine anyK_take (i := 9) (v := ?_) rfl (by kernel_rfl) (by kernel_rfl) (by kernel_rfl) (N := 14) (by kernel_rfl) (by kernel_rfl) (by kernel_rfl) (fun _ _ _ h => h) (Or.inl ⟨by rfl, ?_⟩) hHeld ?_
        rotate_left 1
        · intro w hSw
          go_simp
          try with_reducible rfl
        show anyK _ _ _ _ _ _ _ _ (Act.put _ (some 69) _) _
        simp only [Act.put, List.setIfInBounds_toArray, List.set_cons_zero, List.set_cons_succ]
        refine anyK_take (i := 11) (v := ?_) rfl (by kernel_rfl) (by kernel_rfl) (by kernel_rfl) (N := 14) (by kernel_rfl) (by kernel_rfl) (by kernel_rfl) (fun _ _ _ h => h) (Or.inl ⟨by rfl, ?_⟩) hHeld ?_
        rotate_left 1
        · intro w hSw
          go_simp
          try with_reducible rfl
        show anyK _ _ _ _ _ _ _ _ (Act.put _ (some 71) _) _
        simp only [Act.put, List.setIfInBounds_toArray, List.set_cons_zero, List.set_cons_succ]
        clear hHeld
        refine anyK_one (i := 10) (by kernel_rfl) rfl (fun Kk hKk => ?_)
        go_simp
        (go_at_call 80; refine (HAd.out W.drew hd0).mono ?_; rintro e w5 ⟨b5, a5, n5, c5, rfl, hI5, _, hx5⟩)
        have he5 := hd0.trans hx5
        go_wp2_with fail
        refine hKk.out _ _ (fun _ => ⟨⟨cellKeep he5 lO y0, cellKeep he5 lO y1⟩, cellKeep he5 lG l0, cellKeep he5 lG l1⟩) ?_
        clear hKk Kk
        simp only [List.setIfInBounds_toArray, List.set_cons_zero, List.set_cons_succ]
        have hHeld : (w5.cell? ⟨O, m * 2, none⟩ = some (.bool b4) ∧ w5.cell? ⟨O, m * 2 + 1, none⟩ = some (.slice a4 n4 c4)) ∧ w5.cell? ⟨G, 0, none⟩ = some (.bool b3) ∧ w5.cell? ⟨G, 1, none⟩ = some (.slice a3 n3 c3) := ⟨⟨cellKeep he5 lO y0, cellKeep he5 lO y1⟩, cellKeep he5 lG l0, cellKeep he5 lG l1⟩
        refine anyK_take (i := 12) (v := ?_) rfl (by kernel_rfl) (by kernel_rfl) (by kernel_rfl) (N := 14) (by kernel_rfl) (by kernel_rfl) (by kernel_rfl) (fun _ _ _ h => h) (Or.inl ⟨by rfl, ?_⟩) hHeld ?_
        rotate_left 1
        · intro w hSw
          go_simp
          try with_reducible rfl
        show anyK _ _ _ _ _ _ _ _ (Act.put _ (some 72) _) _
        simp only [Act.put, List.setIfInBounds_toArray, List.set_cons_zero, List.set_cons_succ]
        clear hHeld
        have hV2 := HV.out.1.ext he5
        obtain ⟨_, _, _, _, z0, z1, fz0, fz1, _⟩ := hV2.get m Hm8.out
        obtain ⟨hs, hch⟩ := hV2.set m Hm8.out hI5
        refine anyK_one (i := 13) (by kernel_rfl) rfl (fun Kk hKk => ?_)
        refine stepK_storeZ rfl rfl _ _ rfl O (m * 2) b5 a5 n5 c5 _ _ rfl rfl z0 z1 fz0 fz1 ?_
        refine hKk.out _ _ (fun h => Bool.noConfusion (show true = false from h)) ?_
        clear hKk Kk
        simp only [List.setIfInBounds_toArray, List.set_cons_zero, List.set_cons_succ]
        refine anyK_done (by kernel_rfl) ?_ _
        have Hend := Lib.hid (show ZVar ((w5.setCell ⟨O, m * 2, none⟩ (.bool b5)).setCell ⟨O, m * 2 + 1, none⟩ (.slice a5 n5 c5)) O (mulN (prN X Y i) i (X i) Y (j + 1)) (es : Int) ∧ ZVar ((w5.setCell ⟨O, m * 2, none⟩ (.bool b5)).setCell ⟨O, m * 2 + 1, none⟩ (.slice a5 n5 c5)) H X (ex : Int) ∧ ZVar ((w5.setCell ⟨O, m * 2, none⟩ (.bool b5)).setCell ⟨O, m * 2 + 1, none⟩ (.slice a5 n5 c5)) (H + 1) Y (ey : Int) ∧ ZVar ((w5.setCell ⟨O, m * 2, none⟩ (.bool b5)).setCell ⟨O, m * 2 + 1, none⟩ (.slice a5 n5 c5)) (H + 2) (fun _ => 0) 0 ∧ Ext w ((w5.setCell ⟨O, m * 2, none⟩ (.bool b5)).setCell ⟨O, m * 2 + 1, none⟩ (.slice a5 n5 c5)) from
          ⟨hs.congr fun t _ => by
            have hk := Hk.out; have := Hm8.out
            simp only [mulN, addN]
            rw [show (((i : Int) + (j : Int)) % 8).toNat = m by omega, show sgK ((i : Int) + (j : Int)) (X i * Y j) = X i * Y j by unfold sgK; rw [if_pos (by omega)]], (HV.out.2.1.ext he5).chz hch hV2.no (by have := HO.out; omega), (HV.out.2.2.1.ext he5).chz hch hV2.no (by have := HO.out; omega), (HV.out.2.2.2.1.ext he5).chz hch hV2.no (by have := HO.out; omega), hch.ext (HV.out.2.2.2.2.trans he5) (by have := HO.out; rw [HH.out]; omega)⟩)
        clear hs hch hV2 hI5 hx5 he5 hd0 HAd HV y0 y1 l0 l1 lO lG z0 z1 fz0 fz1
        generalize ((w5.setCell ⟨O, m * 2, none⟩ (.bool b5)).setCell ⟨O, m * 2 + 1, none⟩ (.slice a5 n5 c5)) = V at *
        go_wp2_with fail
        go_roundg (8 - (j + 1))
        case measure => have := Hjk.out; have := Hj1.out; omega
        case rel => exact ⟨j + 1, rfl, Hj1.out, rfl, Hend.out⟩
      · have q6 : ¬ (k : Int) < 8 := by omega
        obtain ⟨m, hm⟩ : ∃ m, k = m + 8 := ⟨k - 8, by omega⟩
        have hm8 : m < 8 := by have := Hi7.out; have := Hlt.out; omega
        have wm : IntKind.i64.wrap ((k : Int) - 8) = (m : Int) := by have := Hi7.out; have := Hlt.out; rw [IntKind.wrap_i64]; omega
        have q7 : (0 : Int) ≤ (m : Int) := by omega
        have q8 : (m : Int) < 8 := by omega
        obtain ⟨b4, a4, n4, c4, y0, y1, _, _, hI4⟩ := HV.out.1.get m hm8
        have hn4 : n4 ≤ P1 + P2 + 6 := hI4.bits (Hab.out i j Hi7.out (by have := Hlt.out; omega) m hm8)
        have Hm8 := Lib.hid hm8; have Hk := Lib.hid (show i + j = m + 8 by omega)
        clear hk hk8 hm hm8
        have HAd := Lib.hid (fun wx (hx : Ext W wx) => ZSub_any b4 b3 a4 a3 n4 c4 n3 c3 (mulN (prN X Y i) i (X i) Y j m) (X i * Y j) wx (hI4.ext hx) (HI3.out.ext hx) (by have := HP.out; omega) (by have := HP.out; have := Hn3.out; omega))
        clear hI4 hn4
        go_upto_region 15 with fail
        have hd0 : Ext W W.drew := Below.drew (Ext.refl _)
        refine wp_region_K 15 (fun w' => (w'.cell? ⟨O, m * 2, none⟩ = some (.bool b4) ∧ w'.cell? ⟨O, m * 2 + 1, none⟩ = some (.slice a4 n4 c4)) ∧ w'.cell? ⟨G, 0, none⟩ = some (.bool b3) ∧ w'.cell? ⟨G, 1, none⟩ = some (.slice a3 n3 c3)) (by kernel_rfl) ?_
        show anyK _ _ _ _ _ _ 16 #[false, false, false, false, false, false, false, false, false, false, false, false, false, false, false, false] _ _
        have hHeld : (W.drew.cell? ⟨O, m * 2, none⟩ = some (.bool b4) ∧ W.drew.cell? ⟨O, m * 2 + 1, none⟩ = some (.slice a4 n4 c4)) ∧ W.drew.cell? ⟨G, 0, none⟩ = some (.bool b3) ∧ W.drew.cell? ⟨G, 1, none⟩ = some (.slice a3 n3 c3) := ⟨⟨cellKeep hd0 lO y0, cellKeep hd0 lO y1⟩, cellKeep hd0 lG l0, cellKeep hd0 lG l1⟩
        refine anyK_take (i := 0) (v := ?_) rfl (by kernel_rfl) (by kernel_rfl) (by kernel_rfl) (N := 16) (by kernel_rfl) (by kernel_rfl) (by kernel_rfl) (fun _ _ _ h => h) (Or.inl ⟨by rfl, ?_⟩) hHeld ?_
        rotate_left 1
        · intro w hSw
          go_simp
          try with_reducible rfl
        show anyK _ _ _ _ _ _ _ _ (Act.put _ (some 73) _) _
        simp only [Act.put, List.setIfInBounds_toArray, List.set_cons_zero, List.set_cons_succ]
        refine anyK_take (i := 1) (v := ?_) rfl (by kernel_rfl) (by kernel_rfl) (by kernel_rfl) (N := 16) (by kernel_rfl) (by kernel_rfl) (by kernel_rfl) (fun _ _ _ h => h) (Or.inl ⟨by rfl, ?_⟩) hHeld ?_
        rotate_left 1
        · intro w hSw
          go_simp
          try with_reducible rfl
        show anyK _ _ _ _ _ _ _ _ (Act.put _ (some 74) _) _
        simp only [Act.put, List.setIfInBounds_toArray, List.set_cons_zero, List.set_cons_succ]
        refine anyK_take (i := 2) (v := ?_) rfl (by kernel_rfl) (by kernel_rfl) (by kernel_rfl) (N := 16) (by kernel_rfl) (by kernel_rfl) (by kernel_rfl) (fun _ _ _ h => h) (Or.inl ⟨by rfl, ?_⟩) hHeld ?_
        rotate_left 1
        · intro w hSw
          go_simp
          try with_reducible rfl
        show anyK _ _ _ _ _ _ _ _ (Act.put _ (some 75) _) _
        simp only [Act.put, List.setIfInBounds_toArray, List.set_cons_zero, List.set_cons_succ]
        refine anyK_take (i := 3) (v := ?_) rfl (by kernel_rfl) (by kernel_rfl) (by kernel_rfl) (N := 16) (by kernel_rfl) (by kernel_rfl) (by kernel_rfl) (fun _ _ _ h => h) (Or.inl ⟨by rfl, ?_⟩) hHeld ?_
        rotate_left 1
        · intro w hSw
          go_simp
          try with_reducible rfl
        show anyK _ _ _ _ _ _ _ _ (Act.put _ (some 76) _) _
        simp only [Act.put, List.setIfInBounds_toArray, List.set_cons_zero, List.set_cons_succ]
        refine anyK_take (i := 4) (v := ?_) rfl (by kernel_rfl) (by kernel_rfl) (by kernel_rfl) (N := 16) (by kernel_rfl) (by kernel_rfl) (by kernel_rfl) (fun _ _ _ h => h) (Or.inl ⟨by rfl, ?_⟩) hHeld ?_
        rotate_left 1
        · intro w hSw
          go_simp
          try with_reducible rfl
        show anyK _ _ _ _ _ _ _ _ (Act.put _ (some 77) _) _
        simp only [Act.put, List.setIfInBounds_toArray, List.set_cons_zero, List.set_cons_succ]
        refine anyK_take (i := 5) (v := ?_) rfl (by kernel_rfl) (by kernel_rfl) (by kernel_rfl) (N := 16) (by kernel_rfl) (by kernel_rfl) (by kernel_rfl) (fun _ _ _ h => h) (Or.inl ⟨by rfl, ?_⟩) hHeld ?_
        rotate_left 1
        · intro w hSw
          go_simp
          try with_reducible rfl
        show anyK _ _ _ _ _ _ _ _ (Act.put _ (some 78) _) _
        simp only [Act.put, List.setIfInBounds_toArray, List.set_cons_zero, List.set_cons_succ]
        refine anyK_take (i := 6) (v := ?_) rfl (by kernel_rfl) (by kernel_rfl) (by kernel_rfl) (N := 16) (by kernel_rfl) (by kernel_rfl) (by kernel_rfl) (fun _ _ _ h => h) (Or.inl ⟨by rfl, ?_⟩) hHeld ?_
        rotate_left 1
        · intro w hSw
          go_simp
          try with_reducible rfl
        show anyK _ _ _ _ _ _ _ _ (Act.put _ (some 79) _) _
        simp only [Act.put, List.setIfInBounds_toArray, List.set_cons_zero, List.set_cons_succ]
        refine anyK_take (i := 7) (v := ?_) rfl (by kernel_rfl) (by kernel_rfl) (by kernel_rfl) (N := 16) (by kernel_rfl) (by kernel_rfl) (by kernel_rfl) (fun _ _ _ h => h) (Or.inl ⟨by rfl, ?_⟩) hHeld ?_
        rotate_left 1
        · intro w hSw
          go_simp
          try with_reducible rfl
        show anyK _ _ _ _ _ _ _ _ (Act.put _ (some 80) _) _
        simp only [Act.put, List.setIfInBounds_toArray, List.set_cons_zero, List.set_cons_succ]
        refine anyK_take (i := 8) (v := ?_) rfl (by kernel_rfl) (by kernel_rfl) (by kernel_rfl) (N := 16) (by kernel_rfl) (by kernel_rfl) (by kernel_rfl) (fun _ _ _ h => h) (Or.inl ⟨by rfl, ?_⟩) hHeld ?_
        rotate_left 1
        · intro w hSw
          go_simp
          try with_reducible rfl
        show anyK _ _ _ _ _ _ _ _ (Act.put _ (some 81) _) _
        simp only [Act.put, List.setIfInBounds_toArray, List.set_cons_zero, List.set_cons_succ]
        refine anyK_take (i := 9) (v := ?_) rfl (by kernel_rfl) (by kernel_rfl) (by kernel_rfl) (N := 16) (by kernel_rfl) (by kernel_rfl) (by kernel_rfl) (fun _ _ _ h => h) (Or.inl ⟨by rfl, ?_⟩) hHeld ?_
        rotate_left 1
        · intro w hSw
          go_simp
          try with_reducible rfl
        show anyK _ _ _ _ _ _ _ _ (Act.put _ (some 82) _) _
        simp only [Act.put, List.setIfInBounds_toArray, List.set_cons_zero, List.set_cons_succ]
        refine anyK_take (i := 10) (v := ?_) rfl (by kernel_rfl) (by kernel_rfl) (by kernel_rfl) (N := 16) (by kernel_rfl) (by kernel_rfl) (by kernel_rfl) (fun _ _ _ h => h) (Or.inl ⟨by rfl, ?_⟩) hHeld ?_
        rotate_left 1
        · intro w hSw
          go_simp
          try with_reducible rfl
        show anyK _ _ _ _ _ _ _ _ (Act.put _ (some 83) _) _
        simp only [Act.put, List.setIfInBounds_toArray, List.set_cons_zero, List.set_cons_succ]
        refine anyK_take (i := 11) (v := ?_) rfl (by kernel_rfl) (by kernel_rfl) (by kernel_rfl) (N := 16) (by kernel_rfl) (by kernel_rfl) (by kernel_rfl) (fun _ _ _ h => h) (Or.inl ⟨by rfl, ?_⟩) hHeld ?_
        rotate_left 1
        · intro w hSw
          go_simp
          try with_reducible rfl
        show anyK _ _ _ _ _ _ _ _ (Act.put _ (some 84) _) _
        simp only [Act.put, List.setIfInBounds_toArray, List.set_cons_zero, List.set_cons_succ]
        refine anyK_take (i := 13) (v := ?_) rfl (by kernel_rfl) (by kernel_rfl) (by kernel_rfl) (N := 16) (by kernel_rfl) (by kernel_rfl) (by kernel_rfl) (fun _ _ _ h => h) (Or.inl ⟨by rfl, ?_⟩) hHeld ?_
        rotate_left 1
        · intro w hSw
          go_simp
          try with_reducible rfl
        show anyK _ _ _ _ _ _ _ _ (Act.put _ (some 86) _) _
        simp only [Act.put, List.setIfInBounds_toArray, List.set_cons_zero, List.set_cons_succ]
        clear hHeld
        refine anyK_one (i := 12) (by kernel_rfl) rfl (fun Kk hKk => ?_)
        go_simp
        (go_at_call 83; refine (HAd.out W.drew hd0).mono ?_; rintro e w5 ⟨b5, a5, n5, c5, rfl, hI5, _, hx5⟩)
        have he5 := hd0.trans hx5
        go_wp2_with fail
        refine hKk.out _ _ (fun _ => ⟨⟨cellKeep he5 lO y0, cellKeep he5 lO y1⟩, cellKeep he5 lG l0, cellKeep he5 lG l1⟩) ?_
        clear hKk Kk
        simp only [List.setIfInBounds_toArray, List.set_cons_zero, List.set_cons_succ]
        have hHeld : (w5.cell? ⟨O, m * 2, none⟩ = some (.bool b4) ∧ w5.cell? ⟨O, m * 2 + 1, none⟩ = some (.slice a4 n4 c4)) ∧ w5.cell? ⟨G, 0, none⟩ = some (.bool b3) ∧ w5.cell? ⟨G, 1, none⟩ = some (.slice a3 n3 c3) := ⟨⟨cellKeep he5 lO y0, cellKeep he5 lO y1⟩, cellKeep he5 lG l0, cellKeep he5 lG l1⟩
        refine anyK_take (i := 14) (v := ?_) rfl (by kernel_rfl) (by kernel_rfl) (by kernel_rfl) (N := 16) (by kernel_rfl) (by kernel_rfl) (by kernel_rfl) (fun _ _ _ h => h) (Or.inl ⟨by rfl, ?_⟩) hHeld ?_
        rotate_left 1
        · intro w hSw
          go_simp
          try with_reducible rfl
        show anyK _ _ _ _ _ _ _ _ (Act.put _ (some 87) _) _
        simp only [Act.put, List.setIfInBounds_toArray, List.set_cons_zero, List.set_cons_succ]
        clear hHeld
        have hV2 := HV.out.1.ext he5
        obtain ⟨_, _, _, _, z0, z1, fz0, fz1, _⟩ := hV2.get m Hm8.out
        obtain ⟨hs, hch⟩ := hV2.set m Hm8.out hI5
        refine anyK_one (i := 15) (by kernel_rfl) rfl (fun Kk hKk => ?_)
        refine stepK_storeZ rfl rfl _ _ rfl O (m * 2) b5 a5 n5 c5 _ _ rfl rfl z0 z1 fz0 fz1 ?_
        refine hKk.out _ _ (fun h => Bool.noConfusion (show true = false from h)) ?_
        clear hKk Kk
        simp only [List.setIfInBounds_toArray, List.set_cons_zero, List.set_cons_succ]
        refine anyK_done (by kernel_rfl) ?_ _
        have Hend := Lib.hid (show ZVar ((w5.setCell ⟨O, m * 2, none⟩ (.bool b5)).setCell ⟨O, m * 2 + 1, none⟩ (.slice a5 n5 c5)) O (mulN (prN X Y i) i (X i) Y (j + 1)) (es : Int) ∧ ZVar ((w5.setCell ⟨O, m * 2, none⟩ (.bool b5)).setCell ⟨O, m * 2 + 1, none⟩ (.slice a5 n5 c5)) H X (ex : Int) ∧ ZVar ((w5.setCell ⟨O, m * 2, none⟩ (.bool b5)).setCell ⟨O, m * 2 + 1, none⟩ (.slice a5 n5 c5)) (H + 1) Y (ey : Int) ∧ ZVar ((w5.setCell ⟨O, m * 2, none⟩ (.bool b5)).setCell ⟨O, m * 2 + 1, none⟩ (.slice a5 n5 c5)) (H + 2) (fun _ => 0) 0 ∧ Ext w ((w5.setCell ⟨O, m * 2, none⟩ (.bool b5)).setCell ⟨O, m * 2 + 1, none⟩ (.slice a5 n5 c5)) from
          ⟨hs.congr fun t _ => by
            have hk := Hk.out; have := Hm8.out
            simp only [mulN, addN]
            rw [show (((i : Int) + (j : Int)) % 8).toNat = m by omega, show sgK ((i : Int) + (j : Int)) (X i * Y j) = -(X i * Y j) by unfold sgK; rw [if_neg (by omega)], Int.sub_eq_add_neg], (HV.out.2.1.ext he5).chz hch hV2.no (by have := HO.out; omega), (HV.out.2.2.1.ext he5).chz hch hV2.no (by have := HO.out; omega), (HV.out.2.2.2.1.ext he5).chz hch hV2.no (by have := HO.out; omega), hch.ext (HV.out.2.2.2.2.trans he5) (by have := HO.out; rw [HH.out]; omega)⟩)
        clear hs hch hV2 hI5 hx5 he5 hd0 HAd HV y0 y1 l0 l1 lO lG z0 z1 fz0 fz1
        generalize ((w5.setCell ⟨O, m * 2, none⟩ (.bool b5)).setCell ⟨O, m * 2 + 1, none⟩ (.slice a5 n5 c5)) = V at *
        go_wp2_with fail
        go_roundg (8 - (j + 1))
        case measure => have := Hjk.out; have := Hj1.out; omega
        case rel => exact ⟨j + 1, rfl, Hj1.out, rfl, Hend.out⟩
end Go.Proofs.YtiicfpdiehgikaaGreatDoor
namespace Go.Proofs.YtiicfpdiehgikaaGreatDoor
open Go.RowKit

theorem sum_over_one {z : Nm} {A B : Int → Int} (he : z.e ≤ 0) (h : EqN z (nAdd ⟨A, 0⟩ ⟨B, 0⟩)) : z = ⟨addR A B, 0⟩ := by
  obtain ⟨a, e⟩ := z
  have e0 : e = 0 := Nat.le_zero.1 he
  subst e0
  have h1 : a = addR A B := by
    funext k
    have := h k
    simpa [nAdd, addR] using this
  rw [h1]
set_option maxRecDepth 100000 in
set_option maxHeartbeats 4000000 in
theorem QMake_bad (ao : Option Addr) (n cp : Nat) (e : Int) (w : World) (P E : Nat) (hb : badE e) :
    Calls Tryz.prog 28 #[.slice ao n cp, .int .i64 e] w fun r w' => r = .returned (.tuple #[.agg zeroR, .agg #[.int .i64 5, .int .i64 0]]) ∧ RmA w' zeroR ⟨ext8 fun _ => 0, 0⟩ P E ∧ Ext w w' := by
  obtain ⟨H, hH⟩ : ∃ H, w.heap.size = H := ⟨_, rfl⟩
  obtain ⟨U, hU⟩ : ∃ U, ((w.alloc (.cells zeroR 38)).alloc (.cells #[.int .i64 0, .int .i64 0] 30)) = U := ⟨_, rfl⟩
  have E0 : Ext w U := by rw [← hU]; exact (Ext.alloc _ _).trans (Ext.alloc _ _)
  have N0 : U.heap[H]? = some (.cells zeroR 38 (0, 0)) := by rw [← hU, ← hH]; exact ((Ext.alloc _ _).block _ (Array.getElem?_eq_some_iff.1 (heap_alloc_new w (.cells zeroR 38))).1).trans (heap_alloc_new w _)
  have F0 : U.heap[H + 1]? = some (.cells #[.int .i64 0, .int .i64 0] 30 (0, 0)) := by
    have h3 := heap_alloc_new (w.alloc (.cells zeroR 38)) (.cells #[.int .i64 0, .int .i64 0] 30)
    rw [← hU, ← hH]
    simpa using h3
  have F1 : (U.setRow H zeroR).heap[H + 1]? = some (.cells #[.int .i64 0, .int .i64 0] 30 (0, 0)) := (setRow_other U H (H + 1) zeroR (by omega)).trans F0
  have G0 : ((U.setRow H zeroR).setRow (H + 1) #[.int .i64 5, .int .i64 0]).heap[H]? = some (.cells zeroR 38 (0, 0)) := (setRow_other _ (H + 1) H _ (by omega)).trans (setRow_heap U H _ zeroR _ _ N0)
  have G1 : ((U.setRow H zeroR).setRow (H + 1) #[.int .i64 5, .int .i64 0]).heap[H + 1]? = some (.cells #[.int .i64 5, .int .i64 0] 30 (0, 0)) := setRow_heap _ (H + 1) _ _ _ _ F1
  have hE' : Ext w ((U.setRow H zeroR).setRow (H + 1) #[.int .i64 5, .int .i64 0]) := by
    have c1 := setRow_only U H zeroR
    have c2 := setRow_only (U.setRow H zeroR) (H + 1) #[.int .i64 5, .int .i64 0]
    refine ⟨c2.os.trans (c1.os.trans E0.os), c2.tape.trans (c1.tape.trans E0.tape), c2.output.trans (c1.output.trans E0.output), by rw [c2.size, c1.size]; exact E0.size, fun k hk => ?_⟩
    rw [c2.block k (by omega), c1.block k (by omega)]
    exact E0.block k hk
  have Hend := Lib.hid (show RmA ((U.setRow H zeroR).setRow (H + 1) #[.int .i64 5, .int .i64 0]) zeroR ⟨ext8 fun _ => 0, 0⟩ P E ∧ Ext w ((U.setRow H zeroR).setRow (H + 1) #[.int .i64 5, .int .i64 0]) from
    ⟨⟨anti_ext8 (fun _ => 0), Or.inl rfl, fun k => by rw [ext8_zero]; exact Nat.pow_pos (by decide), Nat.zero_le _, (zcs_zero _).congr fun i hi => by
      show (0 : Int) = ext8 (fun _ => 0) (i : Int)
      rw [ext8_zero]⟩, hE'⟩)
  have HU := Lib.hid hU; have HH := Lib.hid hH
  clear hU hH E0 hE'
  have go : ∀ b1 : (e < -10000) = True ∨ (e < -10000) = False ∧ (10000 < e) = True, True := fun _ => trivial
  clear go
  go_enter Tryz.func28, Tryz.ntmps28
  go_upto_region 1 with fail
  rw [HU.out, HH.out]
  clear HU HH
  have hone9 := (zcs_zero U).one
  have honeF := fault_one 5 0
  rcases hb with hb | hb
  · go_wp2_with (first
      | refine wpList_store_row rfl 38 _ _ rfl H zeroR rfl rfl 38 _ N0 zR_info rfl hone9 ?_
      | refine wpList_store_row rfl 30 _ _ rfl (H + 1) #[.int .i64 5, .int .i64 0] rfl rfl 30 _ F1 fault_info rfl honeF ?_)
    refine bodyPost_ret (v := .tuple #[.agg zeroR, .agg #[.int .i64 5, .int .i64 0]]) ?_ rfl ⟨rfl, Hend.out⟩
    exact results_row2 rfl _ _ H (H + 1) _ _ _ _ _ _ _ _ rfl rfl G0 G1 Tryz.underlying38 rfl zR_info Tryz.underlying30 rfl fault_info
  · have hb' : ¬ e < -10000 := by omega
    go_wp2_with (first
      | refine wpList_store_row rfl 38 _ _ rfl H zeroR rfl rfl 38 _ N0 zR_info rfl hone9 ?_
      | refine wpList_store_row rfl 30 _ _ rfl (H + 1) #[.int .i64 5, .int .i64 0] rfl rfl 30 _ F1 fault_info rfl honeF ?_)
    refine bodyPost_ret (v := .tuple #[.agg zeroR, .agg #[.int .i64 5, .int .i64 0]]) ?_ rfl ⟨rfl, Hend.out⟩
    exact results_row2 rfl _ _ H (H + 1) _ _ _ _ _ _ _ _ rfl rfl G0 G1 Tryz.underlying38 rfl zR_info Tryz.underlying30 rfl fault_info
end Go.Proofs.YtiicfpdiehgikaaGreatDoor
