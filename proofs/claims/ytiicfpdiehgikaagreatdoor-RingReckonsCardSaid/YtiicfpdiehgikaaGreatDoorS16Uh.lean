/-
  The reference: sums. The reference: differences.
-/
import Derived.Test.YtiicfpdiehgikaaGreatDoorProg
import Derived.Test.YtiicfpdiehgikaaGreatDoorRows
import Derived.BigQuiet
import Derived.Deep.AppendLies
import Derived.Deep.Cut
import Derived.Deep.CutRange
import Derived.Deep.MidRow
import Derived.Deep.QuietTactic
import Derived.Deep.RegionHeld3
import Derived.Laws.Bits64b
import Derived.Laws.CopyOwn
import Derived.Laws.ResultCell
import Derived.Laws.Rows
import Derived.Lib.BitFns
import Derived.Lib.Hide
import Derived.Lib.ItoaNum
import Derived.Lib.Strings
import Derived.Lib.TrailingZeros
import Derived.OwnWalk
import Derived.Shelf.Bits.Mul64
import Derived.Shelf.LaysM
import Derived.Shelf.Small.Bits
import Derived.Shelf.Small.Wraps
import Derived.Shelf.Spec.BitsCarry
import Derived.Shelf.Spec.TrailingZeros
import Derived.Shelf.Strconv.Itoa0
import Derived.Shelf.Strconv.Itoa1
import Derived.Shelf.Strconv.Itoa2
import Derived.Shelf.Strconv.Itoa3
import Derived.Shelf.Strings.Builder1
import Derived.Shelf.Strings.BuilderF
import Derived.Shelf.Strings.BuilderK
import Derived.WalkKit
import Derived.WalkLawsBesides
import Derived.WalkSpells
import Derived.Test.YtiicfpdiehgikaaGreatDoorS00Mem
import Derived.Test.YtiicfpdiehgikaaGreatDoorShelf
import Derived.Test.YtiicfpdiehgikaaGreatDoorS02ShiftI
import Derived.Test.YtiicfpdiehgikaaGreatDoorS03GuessD
import Derived.Test.YtiicfpdiehgikaaGreatDoorS04IntB
import Derived.Test.YtiicfpdiehgikaaGreatDoorS05IntD
import Derived.Test.YtiicfpdiehgikaaGreatDoorS06GcB
import Derived.Test.YtiicfpdiehgikaaGreatDoorS07Rd
import Derived.Test.YtiicfpdiehgikaaGreatDoorS08Rl
import Derived.Test.YtiicfpdiehgikaaGreatDoorS09Ca
import Derived.Test.YtiicfpdiehgikaaGreatDoorS13ZL
import Derived.Test.YtiicfpdiehgikaaGreatDoorS14Ue
import Derived.Test.YtiicfpdiehgikaaGreatDoorS15Uf
namespace Go.Proofs.YtiicfpdiehgikaaGreatDoor
open Go.RowKit

/-- The first j are summed. -/
def adQ (f g : Nat → Int) (j : Nat) : Nat → Int := fun i => if i < j then f i + g i else f i
theorem adN_step (f g : Nat → Int) (j i : Nat) : updN (adQ f g j) j (f j + g j) i = adQ f g (j + 1) i := by
  unfold updN adQ
  by_cases e : i = j
  · subst e; simp
  · rw [if_neg e]
    by_cases h : i < j
    · rw [if_pos h, if_pos (by omega)]
    · rw [if_neg h, if_neg (by omega)]
theorem zero_of_zeroN {x : Nm} (hx : Anti x.a) (h : zeroN fun i : Nat => x.a i) : ∀ k, x.a k = 0 := fun k => by
  have h1 : ext8 (fun i : Nat => x.a i) = ext8 fun _ => 0 := ext8_congr fun i hi => h i hi
  have h2 := congrFun (ext8_of hx) k
  rw [← h2, h1, ext8_zero]
theorem eqN_zero_add {x y : Nm} (h : ∀ k, x.a k = 0) : EqN y (nAdd x y) := fun k => by
  have := h k
  simp only [nAdd, this, Int.pow_add]; grind
theorem eqN_add_zero {x y : Nm} (h : ∀ k, y.a k = 0) : EqN x (nAdd x y) := fun k => by
  have := h k
  simp only [nAdd, this, Int.pow_add]; grind
theorem ext8_lin (f g : Nat → Int) (c c' : Int) (k : Int) : ext8 (fun i => f i * c + g i * c') k = ext8 f k * c + ext8 g k * c' := by
  unfold ext8
  split
  · rfl
  · simp only [Int.neg_add, Int.neg_mul]
theorem eqN_sum {x y : Nm} (hx : Anti x.a) (hy : Anti y.a) {M p q : Nat} (h1 : p + x.e = M) (h2 : q + y.e = M) :
    EqN ⟨ext8 (fun i : Nat => x.a i * ((2 ^ p : Nat) : Int) + y.a i * ((2 ^ q : Nat) : Int)), M⟩ (nAdd x y) := fun k => by
  show ext8 (fun i : Nat => x.a i * ((2 ^ p : Nat) : Int) + y.a i * ((2 ^ q : Nat) : Int)) k * 2 ^ (x.e + y.e) = (x.a k * 2 ^ y.e + y.a k * 2 ^ x.e) * 2 ^ M
  rw [ext8_lin (fun i : Nat => x.a i) (fun i : Nat => y.a i), congrFun (ext8_of hx) k, congrFun (ext8_of hy) k]
  have e1 : (2 : Int) ^ M = ((2 ^ p : Nat) : Int) * 2 ^ x.e := by rw [← h1, Int.pow_add]; simp
  have e2 : (2 : Int) ^ M = ((2 ^ q : Nat) : Int) * 2 ^ y.e := by rw [← h2, Int.pow_add]; simp
  rw [Int.pow_add]
  grind
theorem abs_pow {z : Int} {P p : Nat} (h : z.natAbs < 2 ^ P) : (z * ((2 ^ p : Nat) : Int)).natAbs < 2 ^ (P + p) := by
  rw [Int.natAbs_mul, Int.natAbs_natCast, Nat.pow_add]
  exact Nat.mul_lt_mul_of_pos_right h (Nat.pow_pos (by decide))
theorem abs_le_pow {z : Int} {P p Q : Nat} (h : z.natAbs < 2 ^ P) (hQ : P + p ≤ Q) : (z * ((2 ^ p : Nat) : Int)).natAbs < 2 ^ Q :=
  Nat.lt_of_lt_of_le (abs_pow h) (Nat.pow_le_pow_right (by decide) hQ)
theorem abs_sum {a b : Int} {Q : Nat} (ha : a.natAbs < 2 ^ Q) (hb : b.natAbs < 2 ^ Q) : (a + b).natAbs < 2 ^ (Q + 1) := by
  rw [Nat.pow_succ]; omega

set_option maxRecDepth 100000 in
set_option maxHeartbeats 4000000 in
theorem QAdd_w (ca cb : Array Value) (x y : Nm) (P E : Nat) (w : World) (h : RmW w ca x P E) (g : RmW w cb y P E) (hP : P + E + 1 ≤ 400000) (hE : E ≤ 10000) :
    Calls Tryz.prog 30 #[.agg ca, .agg cb] w fun r w' => ∃ (cr : Array Value) (z : Nm), r = .returned (.agg cr) ∧ RmW w' cr z (P + E + 1) E ∧ (Low x → Low y → Low z) ∧ EqN z (nAdd x y) ∧ Ext w w' := by
  obtain ⟨X, hX⟩ : ∃ X : Nat → Int, (fun i : Nat => x.a i) = X := ⟨_, rfl⟩
  obtain ⟨Y, hY⟩ : ∃ Y : Nat → Int, (fun i : Nat => y.a i) = Y := ⟨_, rfl⟩
  have hv := h.val; have gv := g.val
  rw [hX] at hv
  rw [hY] at gv
  have hXa : ∀ i, i < 8 → (X i).natAbs < 2 ^ P := fun i _ => by rw [← hX]; exact h.abs i
  have hYa : ∀ i, i < 8 → (Y i).natAbs < 2 ^ P := fun i _ => by rw [← hY]; exact g.abs i
  obtain ⟨H, hH⟩ : ∃ H, w.heap.size = H := ⟨_, rfl⟩
  obtain ⟨U, hU⟩ : ∃ U, ((w.alloc (.cells ca 38)).alloc (.cells cb 38)).alloc (.cells zeroR 38) = U := ⟨_, rfl⟩
  have E0 : Ext w U := by rw [← hU]; exact ((Ext.alloc _ _).trans (Ext.alloc _ _)).trans (Ext.alloc _ _)
  have A0 : ZVar U H X (x.e : Int) := by rw [← hU, ← hH]; exact (hv.box.ext (Ext.alloc _ _)).ext (Ext.alloc _ _)
  have B0 : ZVar U (H + 1) Y (y.e : Int) := by
    have := ((gv.ext (Ext.alloc w (.cells ca 38))).box).ext (Ext.alloc _ (.cells zeroR 38))
    rw [← hU, ← hH]
    simpa using this
  have Z0 : ZVar U (H + 2) (fun _ => 0) 0 := by
    have := (zcs_zero ((w.alloc (.cells ca 38)).alloc (.cells cb 38))).box
    rw [← hU, ← hH]
    simpa using this
  have HU := Lib.hid hU; have HH := Lib.hid hH; have HP := Lib.hid hP; have HEE := Lib.hid hE; have HXa := Lib.hid hXa; have HYa := Lib.hid hYa; have Hh := Lib.hid h; have Hg := Lib.hid g; have HX := Lib.hid hX; have HY := Lib.hid hY
  have HA := Lib.hid A0; have HB := Lib.hid B0; have HZ := Lib.hid Z0; have HE := Lib.hid E0
  clear hU hH A0 B0 Z0 E0 h g hP hE hXa hYa hX hY hv gv
  go_enter Tryz.func30, Tryz.ntmps30
  go_upto_region 1 with fail
  rw [HU.out, HH.out]
  clear HU
  obtain ⟨cA, rA, zA⟩ := HA.out
  have iA : (Tryz.prog.info? 38).map (·.size) = some cA.size := by rw [zA.1]; exact zR_info
  by_cases hx0 : zeroN X
  · have HQ := Lib.hid (QZero_any cA X _ U zA true (by simp [hx0]))
    have Hx0 := Lib.hid hx0
    clear zA hx0
    go_wp2_with (refine wpList_load_row rfl 38 _ rfl (H) rfl 38 _ (0, 0) _ rA Tryz.underlying38 rfl iA ?_)
    refine HQ.out.mono ?_
    rintro r w2 ⟨rfl, hx2⟩
    obtain ⟨cr, hr, hc⟩ := HB.out.ext hx2
    have hinf : (Tryz.prog.info? 38).map (·.size) = some cr.size := by rw [hc.1]; exact zR_info
    obtain ⟨c1, hr1, hs1, hone, _, rr, hzz, hE'⟩ := fin_rm hc (HZ.out.ext hx2) (HE.out.trans hx2) (by rw [HH.out]; omega)
    have Hend := Lib.hid (show RmW (w2.setRow (H + 2) cr) cr y (P + E + 1) E ∧ (Low x → Low y → Low y) ∧ EqN y (nAdd x y) ∧ Ext w (w2.setRow (H + 2) cr) from by
      have hg := Hg.out
      have hy := HY.out
      subst hy
      exact ⟨RmW.le ⟨hg.anti, hg.abs, hg.down, hzz⟩ (by omega) (Nat.le_refl _), fun _ h => h, eqN_zero_add (zero_of_zeroN Hh.out.anti (by rw [HX.out]; exact Hx0.out)), hE'⟩)
    clear hc hzz hE' hx2 HQ HA HB HZ HE rA iA
    go_wp2_with (first
      | refine wpList_load_row rfl 38 _ rfl (H + 1) rfl 38 _ (0, 0) _ hr Tryz.underlying38 rfl hinf ?_
      | refine wpList_store_row rfl 38 _ _ rfl (H + 2) cr rfl rfl 38 _ hr1 hinf hs1 hone ?_)
    refine bodyPost_ret (v := .agg cr) ?_ rfl ⟨_, _, rfl, Hend.out⟩
    exact results_cell_row rfl _ _ (H + 2) _ _ _ _ rfl rr Tryz.underlying38 rfl hinf
  have HQ := Lib.hid (QZero_any cA X _ U zA false (by simp [hx0]))
  clear zA hx0
  go_upto_region 1 with fail
  go_wp2_with (refine wpList_load_row rfl 38 _ rfl (H) rfl 38 _ (0, 0) _ rA Tryz.underlying38 rfl iA ?_)
  refine HQ.out.mono ?_
  rintro r w2 ⟨rfl, hx2⟩
  have HA2 := Lib.hid (HA.out.ext hx2); have HB2 := Lib.hid (HB.out.ext hx2); have HZ2 := Lib.hid (HZ.out.ext hx2); have HE2 := Lib.hid (HE.out.trans hx2)
  clear HA HB HZ HE hx2 rA iA HQ
  obtain ⟨cB, rB, zB⟩ := HB2.out
  have iB : (Tryz.prog.info? 38).map (·.size) = some cB.size := by rw [zB.1]; exact zR_info
  by_cases hy0 : zeroN Y
  · have HQ := Lib.hid (QZero_any cB Y _ w2 zB true (by simp [hy0]))
    have Hy0 := Lib.hid hy0
    clear zB hy0
    go_wp2_with (refine wpList_load_row rfl 38 _ rfl (H + 1) rfl 38 _ (0, 0) _ rB Tryz.underlying38 rfl iB ?_)
    refine HQ.out.mono ?_
    rintro r w3 ⟨rfl, hx3⟩
    obtain ⟨cr, hr, hc⟩ := HA2.out.ext hx3
    have hinf : (Tryz.prog.info? 38).map (·.size) = some cr.size := by rw [hc.1]; exact zR_info
    obtain ⟨c1, hr1, hs1, hone, _, rr, hzz, hE'⟩ := fin_rm hc (HZ2.out.ext hx3) (HE2.out.trans hx3) (by rw [HH.out]; omega)
    have Hend := Lib.hid (show RmW (w3.setRow (H + 2) cr) cr x (P + E + 1) E ∧ (Low x → Low y → Low x) ∧ EqN x (nAdd x y) ∧ Ext w (w3.setRow (H + 2) cr) from by
      have hg := Hh.out
      have hy := HX.out
      subst hy
      exact ⟨RmW.le ⟨hg.anti, hg.abs, hg.down, hzz⟩ (by omega) (Nat.le_refl _), fun h _ => h, eqN_add_zero (zero_of_zeroN Hg.out.anti (by rw [HY.out]; exact Hy0.out)), hE'⟩)
    clear hc hzz hE' hx3 HQ HA2 HB2 HZ2 HE2 rB iB
    go_wp2_with (first
      | refine wpList_load_row rfl 38 _ rfl (H) rfl 38 _ (0, 0) _ hr Tryz.underlying38 rfl hinf ?_
      | refine wpList_store_row rfl 38 _ _ rfl (H + 2) cr rfl rfl 38 _ hr1 hinf hs1 hone ?_)
    refine bodyPost_ret (v := .agg cr) ?_ rfl ⟨_, _, rfl, Hend.out⟩
    exact results_cell_row rfl _ _ (H + 2) _ _ _ _ rfl rr Tryz.underlying38 rfl hinf
  have HQ := Lib.hid (QZero_any cB Y _ w2 zB false (by simp [hy0]))
  clear zB hy0
  go_wp2_with (refine wpList_load_row rfl 38 _ rfl (H + 1) rfl 38 _ (0, 0) _ rB Tryz.underlying38 rfl iB ?_)
  refine HQ.out.mono ?_
  rintro r w3 ⟨rfl, hx3⟩
  have HA3 := Lib.hid (HA2.out.ext hx3); have HB3 := Lib.hid (HB2.out.ext hx3); have HZ3 := Lib.hid (HZ2.out.ext hx3); have HE3 := Lib.hid (HE2.out.trans hx3)
  clear HA2 HB2 HZ2 HE2 hx3 rB iB HQ
  obtain ⟨cA, rA, zA⟩ := HA3.out
  have iA : (Tryz.prog.info? 38).map (·.size) = some cA.size := by rw [zA.1]; exact zR_info
  have e16 := HB3.out.gete.1
  have hd1 := Hh.out.down; have hd2 := Hg.out.down; have hd3 := HEE.out; have hd4 := HP.out
  obtain ⟨M, hM⟩ : ∃ M, max y.e x.e = M := ⟨_, rfl⟩
  obtain ⟨p, hp⟩ : ∃ p, y.e - x.e = p := ⟨_, rfl⟩
  obtain ⟨q, hq⟩ : ∃ q, M - y.e = q := ⟨_, rfl⟩
  have HM := Lib.hid (show p + x.e = M ∧ q + y.e = M ∧ M ≤ E ∧ max M y.e = M by omega)
  have HQ := Lib.hid (Qto_any cA X x.e y.e w3 zA P (by omega) HXa.out (by omega))
  rw [hM, hp] at HQ
  have Hq := Lib.hid hq
  clear zA hd1 hd2 hd3 hd4 hM hp hq
  go_wp2_with (refine wpList_load_row rfl 38 _ rfl (H) rfl 38 _ (0, 0) _ rA Tryz.underlying38 rfl iA ?_)
  refine HQ.out.mono ?_
  rintro r w4 ⟨cr, rfl, hcr, hx4⟩
  have hA4 := HA3.out.ext hx4
  obtain ⟨n1, ch, _, _⟩ := hcr.setRow hA4
  have hB4 := (HB3.out.ext hx4).chz ch hA4.no (by omega); have hZ4 := (HZ3.out.ext hx4).chz ch hA4.no (by omega); have hE4 := ch.ext (HE3.out.trans hx4) (by rw [HH.out]; exact Nat.le_refl _)
  obtain ⟨cO, rO, zO⟩ := hA4
  have iR : (Tryz.prog.info? 38).map (·.size) = some cr.size := by rw [hcr.1]; exact zR_info
  have sO : cO.size = cr.size := by rw [zO.1, hcr.1]
  have oR := hcr.one
  obtain ⟨cB, rB, zB⟩ := hB4
  have iB : (Tryz.prog.info? 38).map (·.size) = some cB.size := by rw [zB.1]; exact zR_info
  have e16' := n1.gete.1
  have HQ2 := Lib.hid (Qto_any cB Y y.e M (w4.setRow H cr) zB P (by have := HP.out; omega) HYa.out (by have := HM.out; have := HEE.out; omega))
  rw [Hq.out, HM.out.2.2.2] at HQ2
  have HA4 := Lib.hid n1; have HB4 : Hid (ZVar (w4.setRow H cr) (H + 1) Y (y.e : Int)) := Lib.hid ⟨cB, rB, zB⟩; have HZ4 := Lib.hid hZ4; have HE4 := Lib.hid hE4
  clear HQ HA3 HB3 HZ3 HE3 hx4 n1 ch hZ4 hE4 zO hcr zB rA iA e16 
  go_wp2_with (first
    | refine wpList_store_row rfl 38 _ _ rfl (H) cr rfl rfl 38 _ rO iR sO oR ?_
    | refine wpList_load_row rfl 38 _ rfl (H + 1) rfl 38 _ (0, 0) _ rB Tryz.underlying38 rfl iB ?_)
  refine HQ2.out.mono ?_
  rintro r w5 ⟨cq, rfl, hcq, hx5⟩
  clear rO iR sO oR e16'
  have hB5 := HB4.out.ext hx5
  obtain ⟨n1, ch, _, _⟩ := hcq.setRow hB5
  have hA5 := (HA4.out.ext hx5).chz ch hB5.no (by omega); have hZ5 := (HZ4.out.ext hx5).chz ch hB5.no (by omega); have hE5 := ch.ext (HE4.out.trans hx5) (by rw [HH.out]; omega)
  obtain ⟨cO, rO, zO⟩ := hB5
  have iR : (Tryz.prog.info? 38).map (·.size) = some cq.size := by rw [hcq.1]; exact zR_info
  have sO : cO.size = cq.size := by rw [zO.1, hcq.1]
  have oR := hcq.one
  obtain ⟨fa, hfa⟩ : ∃ fa : Nat → Int, (fun i => X i * ((2 ^ p : Nat) : Int)) = fa := ⟨_, rfl⟩
  obtain ⟨fb, hfb⟩ : ∃ fb : Nat → Int, (fun i => Y i * ((2 ^ q : Nat) : Int)) = fb := ⟨_, rfl⟩
  rw [hfa] at hA5
  rw [hfb] at n1
  have hfaA : ∀ i, i < 8 → (fa i).natAbs < 2 ^ (P + E) := fun i hi => by rw [← hfa]; exact abs_le_pow (HXa.out i hi) (by have := HM.out; omega)
  have hfbA : ∀ i, i < 8 → (fb i).natAbs < 2 ^ (P + E) := fun i hi => by rw [← hfb]; exact abs_le_pow (HYa.out i hi) (by have := HM.out; omega)
  have Hsum := Lib.hid (show EqN ⟨ext8 (adQ fa fb 8), M⟩ (nAdd x y) from by
    have e : ext8 (adQ fa fb 8) = ext8 (fun i : Nat => x.a i * ((2 ^ p : Nat) : Int) + y.a i * ((2 ^ q : Nat) : Int)) := ext8_congr fun i hi => by
      unfold adQ; rw [if_pos hi, ← hfa, ← hfb, ← HX.out, ← HY.out]
    rw [e]
    exact eqN_sum Hh.out.anti Hg.out.anti HM.out.1 HM.out.2.1)
  have HfaA := Lib.hid hfaA; have HfbA := Lib.hid hfbA
  have Hst := Lib.hid (show ZVar (w5.setRow (H + 1) cq) H (adQ fa fb 0) (M : Int) ∧ ZVar (w5.setRow (H + 1) cq) (H + 1) fb (M : Int) ∧ ZVar (w5.setRow (H + 1) cq) (H + 2) (fun _ => 0) 0 ∧ Ext w (w5.setRow (H + 1) cq) from ⟨hA5.congr fun i _ => by simp [adQ], n1, hZ5, hE5⟩)
  clear HQ2 HA4 HB4 HZ4 HE4 hx5 n1 ch hZ5 hE5 hA5 zO hcq rB iB hfa hfb hfaA hfbA
  go_wp2_with (refine wpList_store_row rfl 38 _ _ rfl (H + 1) cq rfl rfl 38 _ rO iR sO oR ?_)
  clear rO iR sO oR
  generalize w5.setRow (H + 1) cq = V at *
  go_loopg [5] 8 (fun kk s5 wr => ∃ j : Nat, s5 = .int .i64 (j : Int) ∧ j ≤ 8 ∧ 8 - j = kk ∧ ZVar wr H (adQ fa fb j) (M : Int) ∧ ZVar wr (H + 1) fb (M : Int) ∧ ZVar wr (H + 2) (fun _ => 0) 0 ∧ Ext w wr)
  case atStart => exact ⟨0, rfl, by omega, by omega, Hst.out⟩
  case round =>
    clear Hst
    obtain ⟨j, rfl, hj, hjk, hV, hB, hZ, hE⟩ := hrel
    obtain ⟨wo, rfl⟩ : ∃ wo : World, wo = wr := ⟨_, rfl⟩
    by_cases hj8 : j = 8
    · subst hj8
      have HV := Lib.hid hV; have HZ := Lib.hid hZ; have HE := Lib.hid hE
      obtain ⟨cA, rA, zA⟩ := hV
      have iA : (Tryz.prog.info? 38).map (·.size) = some cA.size := by rw [zA.1]; exact zR_info
      have HAb := Lib.hid (show ∀ i, i < 8 → (adQ fa fb 8 i).natAbs < 2 ^ (P + E + 1) from fun i hi => by unfold adQ; rw [if_pos hi]; exact abs_sum (HfaA.out i hi) (HfbA.out i hi))
      by_cases hz : zeroN (adQ fa fb 8)
      · have HQ := Lib.hid (QZero_any cA _ _ wo zA true (by simp [hz]))
        have Hz := Lib.hid hz
        clear zA hz hB hZ hE hj hjk
        go_wp2_with (refine wpList_load_row rfl 38 _ rfl (H) rfl 38 _ (0, 0) _ rA Tryz.underlying38 rfl iA ?_)
        refine HQ.out.mono ?_
        rintro r w2 ⟨rfl, hx2⟩
        obtain ⟨c1, hr1, hs1, hone, hinf, rr, hzz, hE'⟩ := fin_rm (zcs_zero w2) (HZ.out.ext hx2) (HE.out.trans hx2) (by rw [HH.out]; omega)
        have Hend := Lib.hid (show RmW (w2.setRow (H + 2) zeroR) zeroR ⟨ext8 (fun _ => 0), 0⟩ (P + E + 1) E ∧ (Low x → Low y → Low ⟨ext8 (fun _ => 0), 0⟩) ∧ EqN ⟨ext8 (fun _ => 0), 0⟩ (nAdd x y) ∧ Ext w (w2.setRow (H + 2) zeroR) from
          ⟨⟨anti_ext8 (fun _ => 0), fun k => by rw [ext8_zero]; exact Nat.pow_pos (by decide), Nat.zero_le _, hzz.congr fun i _ => by show (0 : Int) = ext8 (fun _ => 0) (i : Int); rw [ext8_zero]⟩, fun _ _ => Or.inl rfl, (same_zero (f := adQ fa fb 8) (EqN.refl _) Hz.out).trans Hsum.out, hE'⟩)
        clear hzz hE' hx2 HQ HZ HE HV rA iA
        go_wp2_with (refine wpList_store_row rfl 38 _ _ rfl (H + 2) zeroR rfl rfl 38 _ hr1 hinf hs1 hone ?_)
        refine bodyPost_ret (v := .agg zeroR) ?_ rfl ⟨_, _, rfl, Hend.out⟩
        exact results_cell_row rfl _ _ (H + 2) _ _ _ _ rfl rr Tryz.underlying38 rfl hinf
      have HQ := Lib.hid (QZero_any cA _ _ wo zA false (by simp [hz]))
      clear zA hz hB hZ hE hj hjk
      go_wp2_with (refine wpList_load_row rfl 38 _ rfl (H) rfl 38 _ (0, 0) _ rA Tryz.underlying38 rfl iA ?_)
      refine HQ.out.mono ?_
      rintro r w2 ⟨rfl, hx2⟩
      clear rA iA
      have hV2 := HV.out.ext hx2
      obtain ⟨cA, rA, zA⟩ := hV2
      have iA : (Tryz.prog.info? 38).map (·.size) = some cA.size := by rw [zA.1]; exact zR_info
      have HZ2 := Lib.hid (HZ.out.ext hx2); have HE2 := Lib.hid (HE.out.trans hx2)
      have HQ2 := Lib.hid (Qleast_any cA _ M w2 zA (P + E + 1) E HP.out HAb.out (by have := HM.out; omega) (by have := HEE.out; omega))
      clear zA hx2 HZ HE HV HQ
      go_wp2_with (refine wpList_load_row rfl 38 _ rfl (H) rfl 38 _ (0, 0) _ rA Tryz.underlying38 rfl iA ?_)
      refine HQ2.out.mono ?_
      rintro r w3 ⟨cr, yy, rfl, hcr, hq3, hx3⟩
      obtain ⟨c1, hr1, hs1, hone, hinf, rr, hzz, hE'⟩ := fin_rm hcr.val (HZ2.out.ext hx3) (HE2.out.trans hx3) (by rw [HH.out]; omega)
      have Hend := Lib.hid (show RmW (w3.setRow (H + 2) cr) cr yy (P + E + 1) E ∧ (Low x → Low y → Low yy) ∧ EqN yy (nAdd x y) ∧ Ext w (w3.setRow (H + 2) cr) from
        ⟨⟨hcr.anti, hcr.abs, hcr.down, hzz⟩, fun _ _ => hcr.low, hq3.trans Hsum.out, hE'⟩)
      clear hcr hq3 hzz hE' hx3 HQ2 HZ2 HE2 rA iA
      go_wp2_with (refine wpList_store_row rfl 38 _ _ rfl (H + 2) cr rfl rfl 38 _ hr1 hinf hs1 hone ?_)
      refine bodyPost_ret (v := .agg cr) ?_ rfl ⟨_, _, rfl, Hend.out⟩
      exact results_cell_row rfl _ _ (H + 2) _ _ _ _ rfl rr Tryz.underlying38 rfl hinf
    have hlt : j < 8 := by omega
    have q1 : (j : Int) < 8 := by omega
    have q0 : (0 : Int) ≤ (j : Int) := by omega
    have wk : IntKind.i64.wrap ((j : Int) + 1) = ((j + 1 : Nat) : Int) := by rw [IntKind.wrap_i64]; omega
    have Hj1 := Lib.hid (show j + 1 ≤ 8 by omega); have Hlt := Lib.hid hlt; have Hjk := Lib.hid hjk
    obtain ⟨b1, a1, n1, c1, y0, y1, _, _, hI1⟩ := hV.get j hlt
    obtain ⟨b2, a2, n2, c2, l0, l1, _, _, hI2⟩ := hB.get j hlt
    have hI1' := hI1.cast (show adQ fa fb j j = fa j by simp [adQ])
    have hn1 : n1 ≤ P + E := hI1'.bits (HfaA.out j hlt)
    have hn2 : n2 ≤ P + E := hI2.bits (HfbA.out j hlt)
    have lH := hV.lt; have lG := hB.lt
    have HAd := Lib.hid (fun wx (hx : Ext wo wx) => ZAdd_any b1 b2 a1 a2 n1 c1 n2 c2 (fa j) (fb j) wx (hI1'.ext hx) (hI2.ext hx) (by have := HP.out; omega) (by have := HP.out; omega))
    have HV := Lib.hid hV; have HZ := Lib.hid hZ; have HB := Lib.hid hB; have HE := Lib.hid hE
    clear hI1 hI1' hI2 hn1 hn2 hV hZ hB hE hj8 hj hlt hjk
    go_upto_region 10 with fail
    have hd0 : Ext wo wo.drew := Below.drew (Ext.refl _)
    refine wp_region_K 12 (fun w' => (w'.cell? ⟨H, j * 2, none⟩ = some (.bool b1) ∧ w'.cell? ⟨H, j * 2 + 1, none⟩ = some (.slice a1 n1 c1)) ∧ w'.cell? ⟨H + 1, j * 2, none⟩ = some (.bool b2) ∧ w'.cell? ⟨H + 1, j * 2 + 1, none⟩ = some (.slice a2 n2 c2)) (by kernel_rfl) ?_
    show anyK _ _ _ _ _ _ 13 #[false, false, false, false, false, false, false, false, false, false, false, false, false] _ _
    have hHeld : (wo.drew.cell? ⟨H, j * 2, none⟩ = some (.bool b1) ∧ wo.drew.cell? ⟨H, j * 2 + 1, none⟩ = some (.slice a1 n1 c1)) ∧ wo.drew.cell? ⟨H + 1, j * 2, none⟩ = some (.bool b2) ∧ wo.drew.cell? ⟨H + 1, j * 2 + 1, none⟩ = some (.slice a2 n2 c2) := ⟨⟨cellKeep hd0 lH y0, cellKeep hd0 lH y1⟩, cellKeep hd0 lG l0, cellKeep hd0 lG l1⟩
    refine anyK_take (i := 0) (v := ?_) rfl (by kernel_rfl) (by kernel_rfl) (by kernel_rfl) (N := 13) (by kernel_rfl) (by kernel_rfl) (by kernel_rfl) (fun _ _ _ h => h) (Or.inl ⟨by rfl, ?_⟩) hHeld ?_
    rotate_left 1
    · intro w hSw
      go_simp
      try with_reducible rfl
    show anyK _ _ _ _ _ _ _ _ (Act.put _ (some 24) _) _
    simp only [Act.put, List.setIfInBounds_toArray, List.set_cons_zero, List.set_cons_succ]
    refine anyK_take (i := 1) (v := ?_) rfl (by kernel_rfl) (by kernel_rfl) (by kernel_rfl) (N := 13) (by kernel_rfl) (by kernel_rfl) (by kernel_rfl) (fun _ _ _ h => h) (Or.inl ⟨by rfl, ?_⟩) hHeld ?_
    rotate_left 1
    · intro w hSw
      go_simp
      try with_reducible rfl
    show anyK _ _ _ _ _ _ _ _ (Act.put _ (some 25) _) _
    simp only [Act.put, List.setIfInBounds_toArray, List.set_cons_zero, List.set_cons_succ]
    refine anyK_take (i := 2) (v := ?_) rfl (by kernel_rfl) (by kernel_rfl) (by kernel_rfl) (N := 13) (by kernel_rfl) (by kernel_rfl) (by kernel_rfl) (fun _ _ _ h => h) (Or.inl ⟨by rfl, ?_⟩) hHeld ?_
    rotate_left 1
    · intro w hSw
      go_simp
      try with_reducible rfl
    show anyK _ _ _ _ _ _ _ _ (Act.put _ (some 26) _) _
    simp only [Act.put, List.setIfInBounds_toArray, List.set_cons_zero, List.set_cons_succ]
    refine anyK_take (i := 3) (v := ?_) rfl (by kernel_rfl) (by kernel_rfl) (by kernel_rfl) (N := 13) (by kernel_rfl) (by kernel_rfl) (by kernel_rfl) (fun _ _ _ h => h) (Or.inl ⟨by rfl, ?_⟩) hHeld ?_
    rotate_left 1
    · intro w hSw
      go_simp
      try with_reducible rfl
    show anyK _ _ _ _ _ _ _ _ (Act.put _ (some 27) _) _
    simp only [Act.put, List.setIfInBounds_toArray, List.set_cons_zero, List.set_cons_succ]
    refine anyK_take (i := 4) (v := ?_) rfl (by kernel_rfl) (by kernel_rfl) (by kernel_rfl) (N := 13) (by kernel_rfl) (by kernel_rfl) (by kernel_rfl) (fun _ _ _ h => h) (Or.inl ⟨by rfl, ?_⟩) hHeld ?_
    rotate_left 1
    · intro w hSw
      go_simp
      try with_reducible rfl
    show anyK _ _ _ _ _ _ _ _ (Act.put _ (some 28) _) _
    simp only [Act.put, List.setIfInBounds_toArray, List.set_cons_zero, List.set_cons_succ]
    refine anyK_take (i := 5) (v := ?_) rfl (by kernel_rfl) (by kernel_rfl) (by kernel_rfl) (N := 13) (by kernel_rfl) (by kernel_rfl) (by kernel_rfl) (fun _ _ _ h => h) (Or.inl ⟨by rfl, ?_⟩) hHeld ?_
    rotate_left 1
    · intro w hSw
      go_simp
      try with_reducible rfl
    show anyK _ _ _ _ _ _ _ _ (Act.put _ (some 29) _) _
    simp only [Act.put, List.setIfInBounds_toArray, List.set_cons_zero, List.set_cons_succ]
    refine anyK_take (i := 6) (v := ?_) rfl (by kernel_rfl) (by kernel_rfl) (by kernel_rfl) (N := 13) (by kernel_rfl) (by kernel_rfl) (by kernel_rfl) (fun _ _ _ h => h) (Or.inl ⟨by rfl, ?_⟩) hHeld ?_
    rotate_left 1
    · intro w hSw
      go_simp
      try with_reducible rfl
    show anyK _ _ _ _ _ _ _ _ (Act.put _ (some 30) _) _
    simp only [Act.put, List.setIfInBounds_toArray, List.set_cons_zero, List.set_cons_succ]
    refine anyK_take (i := 7) (v := ?_) rfl (by kernel_rfl) (by kernel_rfl) (by kernel_rfl) (N := 13) (by kernel_rfl) (by kernel_rfl) (by kernel_rfl) (fun _ _ _ h => h) (Or.inl ⟨by rfl, ?_⟩) hHeld ?_
    rotate_left 1
    · intro w hSw
      go_simp
      try with_reducible rfl
    show anyK _ _ _ _ _ _ _ _ (Act.put _ (some 31) _) _
    simp only [Act.put, List.setIfInBounds_toArray, List.set_cons_zero, List.set_cons_succ]
    refine anyK_take (i := 8) (v := ?_) rfl (by kernel_rfl) (by kernel_rfl) (by kernel_rfl) (N := 13) (by kernel_rfl) (by kernel_rfl) (by kernel_rfl) (fun _ _ _ h => h) (Or.inl ⟨by rfl, ?_⟩) hHeld ?_
    rotate_left 1
    · intro w hSw
      go_simp
      try with_reducible rfl
    show anyK _ _ _ _ _ _ _ _ (Act.put _ (some 32) _) _
    simp only [Act.put, List.setIfInBounds_toArray, List.set_cons_zero, List.set_cons_succ]
    refine anyK_take (i := 10) (v := ?_) rfl (by kernel_rfl) (by kernel_rfl) (by kernel_rfl) (N := 13) (by kernel_rfl) (by kernel_rfl) (by kernel_rfl) (fun _ _ _ h => h) (Or.inl ⟨by rfl, ?_⟩) hHeld ?_
    rotate_left 1
    · intro w hSw
      go_simp
      try with_reducible rfl
    show anyK _ _ _ _ _ _ _ _ (Act.put _ (some 34) _) _
    simp only [Act.put, List.setIfInBounds_toArray, List.set_cons_zero, List.set_cons_succ]
    clear hHeld
    refine anyK_one (i := 9) (by kernel_rfl) rfl (fun Kk hKk => ?_)
    go_simp
    (go_at_call 80; refine (HAd.out wo.drew hd0).mono ?_; rintro e w3 ⟨b3, a3, n3, c3, rfl, hI3, _, hx3⟩)
    have he3 := hd0.trans hx3
    go_wp2_with fail
    refine hKk.out _ _ (fun _ => ⟨⟨cellKeep he3 lH y0, cellKeep he3 lH y1⟩, cellKeep he3 lG l0, cellKeep he3 lG l1⟩) ?_
    clear hKk Kk
    simp only [List.setIfInBounds_toArray, List.set_cons_zero, List.set_cons_succ]
    have hHeld : (w3.cell? ⟨H, j * 2, none⟩ = some (.bool b1) ∧ w3.cell? ⟨H, j * 2 + 1, none⟩ = some (.slice a1 n1 c1)) ∧ w3.cell? ⟨H + 1, j * 2, none⟩ = some (.bool b2) ∧ w3.cell? ⟨H + 1, j * 2 + 1, none⟩ = some (.slice a2 n2 c2) := ⟨⟨cellKeep he3 lH y0, cellKeep he3 lH y1⟩, cellKeep he3 lG l0, cellKeep he3 lG l1⟩
    refine anyK_take (i := 11) (v := ?_) rfl (by kernel_rfl) (by kernel_rfl) (by kernel_rfl) (N := 13) (by kernel_rfl) (by kernel_rfl) (by kernel_rfl) (fun _ _ _ h => h) (Or.inl ⟨by rfl, ?_⟩) hHeld ?_
    rotate_left 1
    · intro w hSw
      go_simp
      try with_reducible rfl
    show anyK _ _ _ _ _ _ _ _ (Act.put _ (some 35) _) _
    simp only [Act.put, List.setIfInBounds_toArray, List.set_cons_zero, List.set_cons_succ]
    clear hHeld
    have hV2 := HV.out.ext he3
    obtain ⟨_, _, _, _, z0, z1, fz0, fz1, _⟩ := hV2.get j Hlt.out
    obtain ⟨hs, hch⟩ := hV2.set j Hlt.out hI3
    refine anyK_one (i := 12) (by kernel_rfl) rfl (fun Kk hKk => ?_)
    refine stepK_storeZ rfl rfl _ _ rfl H (j * 2) b3 a3 n3 c3 _ _ rfl rfl z0 z1 fz0 fz1 ?_
    refine hKk.out _ _ (fun h => Bool.noConfusion (show true = false from h)) ?_
    clear hKk Kk
    simp only [List.setIfInBounds_toArray, List.set_cons_zero, List.set_cons_succ]
    refine anyK_done (by kernel_rfl) ?_ _
    have Hend := Lib.hid (show ZVar ((w3.setCell ⟨H, j * 2, none⟩ (.bool b3)).setCell ⟨H, j * 2 + 1, none⟩ (.slice a3 n3 c3)) H (adQ fa fb (j + 1)) (M : Int) ∧ ZVar ((w3.setCell ⟨H, j * 2, none⟩ (.bool b3)).setCell ⟨H, j * 2 + 1, none⟩ (.slice a3 n3 c3)) (H + 1) fb (M : Int) ∧ ZVar ((w3.setCell ⟨H, j * 2, none⟩ (.bool b3)).setCell ⟨H, j * 2 + 1, none⟩ (.slice a3 n3 c3)) (H + 2) (fun _ => 0) 0 ∧ Ext w ((w3.setCell ⟨H, j * 2, none⟩ (.bool b3)).setCell ⟨H, j * 2 + 1, none⟩ (.slice a3 n3 c3)) from
      ⟨hs.congr fun i _ => adN_step fa fb j i, (HB.out.ext he3).chz hch hV2.no (by omega), (HZ.out.ext he3).chz hch hV2.no (by omega), hch.ext (HE.out.trans he3) (by rw [HH.out]; exact Nat.le_refl _)⟩)
    clear hs hch hV2 hI3 hx3 he3 hd0 HAd HV HZ HB HE y0 y1 l0 l1 lH lG z0 z1 fz0 fz1
    generalize ((w3.setCell ⟨H, j * 2, none⟩ (.bool b3)).setCell ⟨H, j * 2 + 1, none⟩ (.slice a3 n3 c3)) = V at *
    go_wp2_with fail
    go_roundg (8 - (j + 1))
    case measure => have := Hjk.out; have := Hj1.out; omega
    case rel => exact ⟨j + 1, rfl, Hj1.out, rfl, Hend.out⟩
theorem QAdd_nm (ca cb : Array Value) (x y : Nm) (P E : Nat) (w : World) (h : RmA w ca x P E) (g : RmA w cb y P E) (hP : P + E + 1 ≤ 400000) (hE : E ≤ 10000) :
    Calls Tryz.prog 30 #[.agg ca, .agg cb] w fun r w' => ∃ (cr : Array Value) (z : Nm), r = .returned (.agg cr) ∧ RmA w' cr z (P + E + 1) E ∧ EqN z (nAdd x y) ∧ Ext w w' := by
  refine (QAdd_w ca cb x y P E w h.w g.w hP hE).mono ?_
  rintro r w' ⟨cr, z, rfl, hw, hl, hq, hx⟩
  exact ⟨cr, z, rfl, hw.a (hl h.low g.low), hq, hx⟩
end Go.Proofs.YtiicfpdiehgikaaGreatDoor
namespace Go.Proofs.YtiicfpdiehgikaaGreatDoor
open Go.RowKit

set_option maxRecDepth 100000 in
set_option maxHeartbeats 4000000 in
theorem QSub_nm (ca cb : Array Value) (x y : Nm) (P E : Nat) (w : World) (h1 : RmA w ca x P E) (h2 : RmA w cb y P E) (hP : P + E + 1 ≤ 400000) (hE : E ≤ 10000) :
    Calls Tryz.prog 32 #[.agg ca, .agg cb] w fun e w' => ∃ (cr : Array Value) (z : Nm), e = .returned (.agg cr) ∧ RmA w' cr z (P + E + 1) E ∧ EqN z (nAdd x (nNeg y)) ∧ Ext w w' := by
  obtain ⟨H, hH⟩ : ∃ H, w.heap.size = H := ⟨_, rfl⟩
  obtain ⟨U, hU⟩ : ∃ U, (((w.alloc (.cells ca 38)).alloc (.cells cb 38)).alloc (.cells zeroR 38)) = U := ⟨_, rfl⟩
  have E0 : Ext w U := by rw [← hU]; exact ((Ext.alloc _ _).trans (Ext.alloc _ _)).trans (Ext.alloc _ _)
  have hrA : U.heap[H]? = some (.cells ca 38 (0, 0)) := by rw [← hU, ← hH]; exact (((Ext.alloc _ _).trans (Ext.alloc _ _)).block _ (Array.getElem?_eq_some_iff.1 (heap_alloc_new w (.cells ca 38))).1).trans (heap_alloc_new w _)
  have hrB : U.heap[H + 1]? = some (.cells cb 38 (0, 0)) := by
    have h3 := heap_alloc_new (w.alloc (.cells ca 38)) (.cells cb 38)
    have h4 := ((Ext.alloc ((w.alloc (.cells ca 38)).alloc (.cells cb 38)) (.cells zeroR 38)).block _ (Array.getElem?_eq_some_iff.1 h3).1).trans h3
    rw [← hU, ← hH]
    simpa using h4
  have Z0 : ZVar U (H + 2) (fun _ => 0) 0 := by
    have := (zcs_zero ((w.alloc (.cells ca 38)).alloc (.cells cb 38))).box
    rw [← hU, ← hH]
    simpa using this
  have lA := (Array.getElem?_eq_some_iff.1 hrA).1; have lB := (Array.getElem?_eq_some_iff.1 hrB).1
  have HNe := Lib.hid (fun (wx : World) (hx : Ext U wx) => QNeg_nm cb y P E wx (h2.ext (E0.trans hx)) (by omega))
  have HAd := Lib.hid (fun (wx : World) (hx : Ext U wx) (cn : Array Value) (hn : RmA wx cn (nNeg y) P E) => QAdd_nm ca cn x (nNeg y) P E wx (h1.ext (E0.trans hx)) hn hP hE)
  have hi1 := h1.info; have hi2 := h2.info
  have HU := Lib.hid hU; have HH := Lib.hid hH; have HZ0 := Lib.hid Z0; have HE0 := Lib.hid E0
  clear hU hH Z0 E0 h1 h2 hP hE
  go_enter Tryz.func32, Tryz.ntmps32
  go_upto_region 1 with fail
  rw [HU.out, HH.out]
  clear HU
  have hd0 : Ext U U.drew := Below.drew (Ext.refl _)
  refine wp_region_K 4 (fun w' => w'.heap[H]? = some (.cells ca 38 (0, 0)) ∧ w'.heap[H + 1]? = some (.cells cb 38 (0, 0))) (by kernel_rfl) ?_
  show anyK _ _ _ _ _ _ 5 #[false, false, false, false, false] _ _
  have hHeld : U.drew.heap[H]? = some (.cells ca 38 (0, 0)) ∧ U.drew.heap[H + 1]? = some (.cells cb 38 (0, 0)) := ⟨(hd0.block _ lA).trans hrA, (hd0.block _ lB).trans hrB⟩
  refine anyK_take (i := 0) (v := .agg ca) rfl (by kernel_rfl) (by kernel_rfl) (by kernel_rfl) (N := 5) (by kernel_rfl) (by kernel_rfl) (by kernel_rfl) (fun _ _ _ h => h) (Or.inl ⟨by rfl, ?_⟩) hHeld ?_
  · intro w hSw
    exact exec_load_row 38 _ rfl (H) rfl 38 _ (0, 0) _ hSw.1 Tryz.underlying38 rfl hi1
  show anyK _ _ _ _ _ _ _ _ (Act.put _ (some 5) _) _
  simp only [Act.put, List.setIfInBounds_toArray, List.set_cons_zero, List.set_cons_succ]
  refine anyK_take (i := 1) (v := .agg cb) rfl (by kernel_rfl) (by kernel_rfl) (by kernel_rfl) (N := 5) (by kernel_rfl) (by kernel_rfl) (by kernel_rfl) (fun _ _ _ h => h) (Or.inl ⟨by rfl, ?_⟩) hHeld ?_
  · intro w hSw
    exact exec_load_row 38 _ rfl (H + 1) rfl 38 _ (0, 0) _ hSw.2 Tryz.underlying38 rfl hi2
  show anyK _ _ _ _ _ _ _ _ (Act.put _ (some 6) _) _
  simp only [Act.put, List.setIfInBounds_toArray, List.set_cons_zero, List.set_cons_succ]
  clear hHeld
  refine anyK_one (i := 2) (by kernel_rfl) rfl (fun Kk hKk => ?_)
  go_simp
  (go_at_call 36; refine (HNe.out _ hd0).mono ?_; rintro e w1 ⟨cn, rfl, hn1, hxx⟩)
  have he1 := hd0.trans hxx
  go_wp2_with fail
  refine hKk.out _ _ (fun _ => ⟨(he1.block _ lA).trans hrA, (he1.block _ lB).trans hrB⟩) ?_
  clear hKk Kk hxx
  simp only [List.setIfInBounds_toArray, List.set_cons_zero, List.set_cons_succ]
  refine anyK_one (i := 3) (by kernel_rfl) rfl (fun Kk hKk => ?_)
  go_simp
  (go_at_call 30; refine (HAd.out w1 he1 cn hn1).mono ?_; rintro e w2 ⟨cr, z, rfl, hcr, hy, hxx⟩)
  have he2 := he1.trans hxx
  go_wp2_with fail
  refine hKk.out _ _ (fun _ => ⟨(he2.block _ lA).trans hrA, (he2.block _ lB).trans hrB⟩) ?_
  clear hKk Kk hxx
  simp only [List.setIfInBounds_toArray, List.set_cons_zero, List.set_cons_succ]
  obtain ⟨c1, hr1, hs1, hone, hinf, rr, hnm, hE'⟩ := fin_rm hcr.val (HZ0.out.ext he2) (HE0.out.trans he2) (by rw [HH.out]; omega)
  have Hend := Lib.hid (show RmA (w2.setRow (H + 2) cr) cr z (P + E + 1) E ∧ EqN z (nAdd x (nNeg y)) ∧ Ext w (w2.setRow (H + 2) cr) from ⟨⟨hcr.anti, hcr.low, hcr.abs, hcr.down, hnm⟩, hy, hE'⟩)
  clear hnm hE' hcr hy
  refine anyK_one (i := 4) (by kernel_rfl) rfl (fun Kk hKk => ?_)
  refine stepK_storeR rfl rfl 38 _ _ rfl (H + 2) cr rfl rfl 38 _ hr1 hinf hs1 hone ?_
  refine hKk.out _ _ (fun h => Bool.noConfusion (show true = false from h)) ?_
  clear hKk Kk
  simp only [List.setIfInBounds_toArray, List.set_cons_zero, List.set_cons_succ]
  refine anyK_done (by kernel_rfl) ?_ _
  go_wp2_with fail
  refine bodyPost_ret (v := .agg cr) ?_ rfl ⟨_, _, rfl, Hend.out⟩
  exact results_cell_row rfl _ _ (H + 2) _ _ _ _ rfl rr Tryz.underlying38 rfl hinf
end Go.Proofs.YtiicfpdiehgikaaGreatDoor
