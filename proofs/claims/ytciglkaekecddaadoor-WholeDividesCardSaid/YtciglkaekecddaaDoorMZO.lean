/-
  The reference's numbers: ZOf.
-/
import Derived.Test.YtciglkaekecddaaDoorMZL
import Derived.Test.YtciglkaekecddaaDoorMZT

namespace Go.Proofs.YtciglkaekecddaaDoor
open Go.RowKit

theorem zof_few {k u v : Nat} (hu : 0 < u) (h : 10000 ^ k * u ≤ v) (hv : v ≤ 9223372036854775808) : k < 5 := by
  apply Nat.lt_of_not_le
  intro hk
  have h1 : (10000 : Nat) ^ 5 ≤ 10000 ^ k := Nat.pow_le_pow_right (by decide) hk
  have h2 : 10000 ^ k ≤ 10000 ^ k * u := Nat.le_mul_of_pos_right _ hu
  omega

theorem zof_step {l : List Nat} {k u v d q : Nat} (hl : l.length = k) (h : zval l + 10000 ^ k * u = v) (hd : u % 10000 = d) (hq : u / 10000 = q) : zval (l ++ [d]) + 10000 ^ (k + 1) * q = v := by
  rw [zval_snoc, hl, Nat.pow_succ, Nat.mul_assoc, Nat.add_assoc, ← Nat.mul_add]
  rw [← h]
  congr 2
  omega

set_option maxHeartbeats 2000000 in
set_option maxRecDepth 100000 in
theorem ZOf_any (n : Int) (h1 : -9223372036854775808 ≤ n) (h2 : n ≤ 9223372036854775807) (w : World) :
    Calls Tryd.prog 15 #[.int .i64 n] w (ZRet w n 5) := by
  obtain ⟨i0, hi, hz0, hz1, hz2⟩ := info_parts int_info
  have hE := ext_alloc w (.cells #[.bool false, .slice none 0 0] 31)
  have hR := zres_new w
  obtain ⟨v, hv⟩ : ∃ v, n.natAbs = v := ⟨_, rfl⟩
  have hvb : v ≤ 9223372036854775808 := by omega
  by_cases hneg : n < 0
  · obtain ⟨X, hX⟩ : ∃ X : Nat, IntKind.u64.wrap n = (X : Int) := ⟨(IntKind.u64.wrap n).toNat, by rw [IntKind.wrap_u64]; omega⟩
    have hX2 : IntKind.u64.wrap (-(X : Int)) = (v : Int) := by rw [IntKind.wrap_u64] at hX ⊢; omega
    have Hz : Hid (n = if true = true then -(v : Int) else (v : Int)) := by show _ = _; simp; omega
    have Hvb := Lib.hid hvb
    clear hv hvb
    go_enter Tryd.func15, Tryd.ntmps15
    go_wp2_with fail
    generalize w.alloc (.cells #[.bool false, .slice none 0 0] 31) = W0 at *
    clear hX hX2
    go_loopw [3, 4] (fun uv dv wr => ∃ (k u : Nat) (l : List Nat), uv = .int .u64 u ∧ l.length = k ∧ k ≤ 5 ∧ ZD l ∧ wr.ownsRow W0.heap.size 3 1 dv k (inC l) ∧ zval l + 10000 ^ k * u = v ∧ Ext W0 wr) (fun uv _ _ => (intOf uv).toNat)
    case atStart => exact ⟨0, v, [], by go_num, rfl, by omega, ZD.nil, (show W0.ownsRow W0.heap.size 3 1 (.slice none 0 0) 0 (inC []) from World.ownsRow_nil _ _ _ _), by simp [zval], Ext.refl _⟩
    case round =>
      obtain ⟨k, u, l, rfl, hl, hk, hd, hown, hval, hEr⟩ := hrel
      have Hl := Lib.hid hl; have Hd := Lib.hid hd; have Hval := Lib.hid hval; have Hown := Lib.hid hown
      by_cases hu : 0 < u
      · have hk5 : k < 5 := zof_few hu (by omega) Hvb.out
        have iu : (0 : Int) < (u : Int) := by omega
        obtain ⟨dg, hdg⟩ : ∃ dg, u % 10000 = dg := ⟨_, rfl⟩
        obtain ⟨q, hq⟩ : ∃ q, u / 10000 = q := ⟨_, rfl⟩
        have Hst := Lib.hid (zof_step hl hval hdg hq)
        have hdl : dg < 10000 := by omega
        have hqu : q < u := by omega
        have hub : u ≤ 9223372036854775808 := by
          have h0 := Hvb.out
          have h1 : 1 ≤ 10000 ^ k := Nat.one_le_pow _ _ (by decide)
          have h2 : 1 * u ≤ 10000 ^ k * u := Nat.mul_le_mul_right _ h1
          omega
        have r1 : (u : Int).tmod 10000 = (dg : Int) := by rw [Int.tmod_eq_emod_of_nonneg (by omega)]; omega
        have r2 : (u : Int) % 10000 = (dg : Int) := by omega
        have r3 : (u : Int).tdiv 10000 = (q : Int) := by rw [Int.tdiv_eq_ediv_of_nonneg (by omega)]; omega
        have r4 : (u : Int) / 10000 = (q : Int) := by omega
        clear hdg hq hl hd hown hval
        go_wp2_with (at_builtin; refine wpList_append_own _ rfl _ _ 29 rfl W0.heap.size 3 i0 (.int .i64 0) 1 8 Tryd.underlying29 hi hz0 hz1 hz2 rfl (by decide) _ k (inC l) rfl (Hown.out.alloc _) ⟨wr.heap.size, 0, none⟩ 1 1 [.int .i64 (dg : Int)] rfl rfl (new_int wr _ _) (one_int _) (by unfold maxLen; omega) (by omega) (Nat.le_trans hEr.size (ext_alloc wr _).size) ?_; intro v' w' hown' hgrow' _)
        go_roundw
        case rel => exact ⟨k + 1, q, l ++ [dg], by go_num, by rw [List.length_append, Hl.out]; rfl, by omega, Hd.out.snoc hdl, by rw [inC_snoc]; exact hown', Hst.out, ext_grown (hEr.trans (ext_alloc wr _)) hgrow' (fun j hj => (Hown.out.lt j hj).1)⟩
        case measure => simp [intOf]; omega
      · obtain rfl : u = 0 := by omega
        have hzl : zval l = v := by have := Hval.out; omega
        obtain ⟨a9, c9, rfl, q1, q2, q3, q4⟩ := iseg_of_own Hown.out
        have Hm := Lib.hid (zmade_any true a9 l k c9 wr q3 q4 Hd.out q1 q2 (by omega) n (by rw [hzl]; exact Hz.out))
        clear hl hd hown hval hzl
        go_wp2_with fail
        refine Hm.out.mono ?_
        rintro e w9 ⟨b', a', n', c', rfl, hI, hle, hx9⟩
        have hR9 := hR.ext (hEr.trans hx9)
        have k0 := hR9.c0; have k1 := hR9.c1; have f0 := hR9.f 0; have f1 := hR9.f 1
        go_wp2_with fail
        exact bodyPost_ret (v := .agg #[.bool b', .slice a' n' c']) (by simp [results, Tryd.results15, go_sem, k0, k1]) rfl ⟨b', a', n', c', rfl, hI.keepRes hR9.row _ _, by omega, zput2 (hE.trans (hEr.trans hx9)) (Nat.le_refl _) _ _⟩
  · have hX : IntKind.u64.wrap n = (v : Int) := by rw [IntKind.wrap_u64]; omega
    have hnd : decide (n < 0) = false := by rw [decide_eq_false_iff_not]; exact hneg
    have Hz : Hid (n = if false = true then -(v : Int) else (v : Int)) := by show _ = _; simp; omega
    have Hvb := Lib.hid hvb
    clear hv hvb
    go_enter Tryd.func15, Tryd.ntmps15
    go_wp2_with fail
    generalize w.alloc (.cells #[.bool false, .slice none 0 0] 31) = W0 at *
    clear hX
    go_loopw [3, 4] (fun uv dv wr => ∃ (k u : Nat) (l : List Nat), uv = .int .u64 u ∧ l.length = k ∧ k ≤ 5 ∧ ZD l ∧ wr.ownsRow W0.heap.size 3 1 dv k (inC l) ∧ zval l + 10000 ^ k * u = v ∧ Ext W0 wr) (fun uv _ _ => (intOf uv).toNat)
    case atStart => exact ⟨0, v, [], by go_num, rfl, by omega, ZD.nil, (show W0.ownsRow W0.heap.size 3 1 (.slice none 0 0) 0 (inC []) from World.ownsRow_nil _ _ _ _), by simp [zval], Ext.refl _⟩
    case round =>
      obtain ⟨k, u, l, rfl, hl, hk, hd, hown, hval, hEr⟩ := hrel
      have Hl := Lib.hid hl; have Hd := Lib.hid hd; have Hval := Lib.hid hval; have Hown := Lib.hid hown
      by_cases hu : 0 < u
      · have hk5 : k < 5 := zof_few hu (by omega) Hvb.out
        have iu : (0 : Int) < (u : Int) := by omega
        obtain ⟨dg, hdg⟩ : ∃ dg, u % 10000 = dg := ⟨_, rfl⟩
        obtain ⟨q, hq⟩ : ∃ q, u / 10000 = q := ⟨_, rfl⟩
        have Hst := Lib.hid (zof_step hl hval hdg hq)
        have hdl : dg < 10000 := by omega
        have hqu : q < u := by omega
        have hub : u ≤ 9223372036854775808 := by
          have h0 := Hvb.out
          have h1 : 1 ≤ 10000 ^ k := Nat.one_le_pow _ _ (by decide)
          have h2 : 1 * u ≤ 10000 ^ k * u := Nat.mul_le_mul_right _ h1
          omega
        have r1 : (u : Int).tmod 10000 = (dg : Int) := by rw [Int.tmod_eq_emod_of_nonneg (by omega)]; omega
        have r2 : (u : Int) % 10000 = (dg : Int) := by omega
        have r3 : (u : Int).tdiv 10000 = (q : Int) := by rw [Int.tdiv_eq_ediv_of_nonneg (by omega)]; omega
        have r4 : (u : Int) / 10000 = (q : Int) := by omega
        clear hdg hq hl hd hown hval
        go_wp2_with (at_builtin; refine wpList_append_own _ rfl _ _ 29 rfl W0.heap.size 3 i0 (.int .i64 0) 1 8 Tryd.underlying29 hi hz0 hz1 hz2 rfl (by decide) _ k (inC l) rfl (Hown.out.alloc _) ⟨wr.heap.size, 0, none⟩ 1 1 [.int .i64 (dg : Int)] rfl rfl (new_int wr _ _) (one_int _) (by unfold maxLen; omega) (by omega) (Nat.le_trans hEr.size (ext_alloc wr _).size) ?_; intro v' w' hown' hgrow' _)
        go_roundw
        case rel => exact ⟨k + 1, q, l ++ [dg], by go_num, by rw [List.length_append, Hl.out]; rfl, by omega, Hd.out.snoc hdl, by rw [inC_snoc]; exact hown', Hst.out, ext_grown (hEr.trans (ext_alloc wr _)) hgrow' (fun j hj => (Hown.out.lt j hj).1)⟩
        case measure => simp [intOf]; omega
      · obtain rfl : u = 0 := by omega
        have hzl : zval l = v := by have := Hval.out; omega
        obtain ⟨a9, c9, rfl, q1, q2, q3, q4⟩ := iseg_of_own Hown.out
        have Hm := Lib.hid (zmade_any false a9 l k c9 wr q3 q4 Hd.out q1 q2 (by omega) n (by rw [hzl]; exact Hz.out))
        clear hl hd hown hval hzl
        go_wp2_with fail
        refine Hm.out.mono ?_
        rintro e w9 ⟨b', a', n', c', rfl, hI, hle, hx9⟩
        have hR9 := hR.ext (hEr.trans hx9)
        have k0 := hR9.c0; have k1 := hR9.c1; have f0 := hR9.f 0; have f1 := hR9.f 1
        go_wp2_with fail
        exact bodyPost_ret (v := .agg #[.bool b', .slice a' n' c']) (by simp [results, Tryd.results15, go_sem, k0, k1]) rfl ⟨b', a', n', c', rfl, hI.keepRes hR9.row _ _, by omega, zput2 (hE.trans (hEr.trans hx9)) (Nat.le_refl _) _ _⟩

end Go.Proofs.YtciglkaekecddaaDoor

/-
  The reference's numbers: ZSmall.
-/
namespace Go.Proofs.YtciglkaekecddaaDoor
open Go.RowKit

theorem zval_drop_le (l : List Nat) (k : Nat) : zval (l.drop k) ≤ zval l := by
  have h : l = l.take k ++ l.drop k := (List.take_append_drop k l).symm
  conv => rhs; rw [h]
  rw [zval_append]
  have h1 : 1 ≤ 10000 ^ (l.take k).length := Nat.one_le_pow _ _ (by decide)
  have h2 := Nat.mul_le_mul_right (zval (l.drop k)) h1
  omega

theorem zneg_step {l : List Nat} {j x V V' : Nat} (h : j < l.length) (hx : l.getD j 0 = x) (hV : zval (l.drop (j + 1)) = V) (hV' : zval (l.drop j) = V') : V' = x + 10000 * V := by
  rw [← hV', zval_drop l j h, hx, hV]

/-- What is told of a number that is no int, or is one. -/
def smN (z : Int) : Int := if -9223372036854775808 ≤ z ∧ z ≤ 9223372036854775807 then z else 0
def smB (z : Int) : Bool := decide (-9223372036854775808 ≤ z ∧ z ≤ 9223372036854775807)

set_option maxHeartbeats 2000000 in
set_option maxRecDepth 100000 in
theorem ZSmall_any (neg : Bool) (ao : Option Addr) (n c : Nat) (z : Int) (w : World) (h : IsZ w neg ao n c z) (hn : n ≤ 400000) :
    Calls Tryd.prog 11 #[.agg #[.bool neg, .slice ao n c]] w fun e w' => e = .returned (.tuple #[.int .i64 (smN z), .bool (smB z)]) ∧ Ext w w' := by
  have H := Lib.hid h
  have hE := ext_alloc w (.cells #[.bool neg, .slice ao n c] 31)
  have bA := zbx_new w neg ao n c
  have x0 := bA.c0; have x1 := bA.c1
  have lA := bA.lt
  have HO1 := Lib.hid (fun wx => ZOf_any (-9223372036854775808) (by decide) (by decide) wx)
  have HO2 := Lib.hid (fun wx => ZOf_any 9223372036854775807 (by decide) (by decide) wx)
  by_cases hlo : z < -9223372036854775808
  · have Hs : Hid (smN z = 0 ∧ smB z = false) := by
      refine ⟨?_, ?_⟩
      · unfold smN; rw [if_neg (by omega)]
      · unfold smB; rw [decide_eq_false_iff_not]; omega
    rw [Hs.out.1, Hs.out.2]
    obtain ⟨k1, hk1⟩ : ∃ k1 : Int, k1 = -1 := ⟨_, rfl⟩
    have HC := Lib.hid (fun wx b2 a2 n2 c2 (hx : Ext w wx) (h2 : IsZ wx b2 a2 n2 c2 (-9223372036854775808)) (hn2 : n2 ≤ 5) => ZCmp_any neg b2 ao a2 n c n2 c2 z (-9223372036854775808) wx (h.ext hx) h2 (by omega) (by omega) k1 (by rw [if_pos (by omega)]; exact hk1))
    have hk1n : decide (k1 < 0) = true := by rw [decide_eq_true_eq]; omega
    clear h hk1
    go_enter Tryd.func11, Tryd.ntmps11
    go_wp2_with fail
    generalize w.alloc (.cells #[.bool neg, .slice ao n c] 31) = W0 at *
    have h0d : Ext W0 W0.drew := Below.drew (Ext.refl _)
    go_region_with (first
      | (have _ := q0; go_at_call 29; refine (HC.out _ _ _ _ _ (hE.trans h0) K0 L0).mono ?_; rintro e v1 ⟨rfl, q1⟩; have h1 : Ext W0 v1 := h0.trans q1)
      | (go_at_call 15; refine (HO1.out _).mono ?_; rintro e v0 ⟨b0, o0, m0, j0, rfl, K0, L0, q0⟩; have h0 : Ext W0 v0 := Ext.trans (by assumption) q0; have y0 := zKeep h0 lA x0; have y1 := zKeep h0 lA x1))
    all_goals
      go_wp2_with fail
      go_ret2
      exact ⟨rfl, hE.trans h1⟩
  · obtain ⟨k1, hk1⟩ : ∃ k1 : Int, k1 = if z - -9223372036854775808 < 0 then -1 else if 0 < z - -9223372036854775808 then 1 else 0 := ⟨_, rfl⟩
    have hk1n : decide (k1 < 0) = false := by
      rw [decide_eq_false_iff_not, hk1, if_neg (by omega)]
      split <;> omega
    have HC1 := Lib.hid (fun wx b2 a2 n2 c2 (hx : Ext w wx) (h2 : IsZ wx b2 a2 n2 c2 (-9223372036854775808)) (hn2 : n2 ≤ 5) => ZCmp_any neg b2 ao a2 n c n2 c2 z (-9223372036854775808) wx (h.ext hx) h2 (by omega) (by omega) k1 hk1)
    by_cases hhi : 9223372036854775807 < z
    · have Hs : Hid (smN z = 0 ∧ smB z = false) := by
        refine ⟨?_, ?_⟩
        · unfold smN; rw [if_neg (by omega)]
        · unfold smB; rw [decide_eq_false_iff_not]; omega
      rw [Hs.out.1, Hs.out.2]
      obtain ⟨k2, hk2⟩ : ∃ k2 : Int, k2 = 1 := ⟨_, rfl⟩
      have HC2 := Lib.hid (fun wx b2 a2 n2 c2 (hx : Ext w wx) (h2 : IsZ wx b2 a2 n2 c2 9223372036854775807) (hn2 : n2 ≤ 5) => ZCmp_any neg b2 ao a2 n c n2 c2 z 9223372036854775807 wx (h.ext hx) h2 (by omega) (by omega) k2 (by rw [if_neg (by omega), if_pos (by omega)]; exact hk2))
      have hk2n : decide (0 < k2) = true := by rw [decide_eq_true_eq]; omega
      clear h hk1 hk2
      go_enter Tryd.func11, Tryd.ntmps11
      go_wp2_with fail
      generalize w.alloc (.cells #[.bool neg, .slice ao n c] 31) = W0 at *
      have h0d : Ext W0 W0.drew := Below.drew (Ext.refl _)
      go_region_held3 (fun w' => w'.cell? ⟨w.heap.size, 0, none⟩ = some (.bool neg) ∧ w'.cell? ⟨w.heap.size, 1, none⟩ = some (.slice ao n c))
        (exact ⟨zKeep (W := W0) (by assumption) lA x0, zKeep (W := W0) (by assumption) lA x1⟩)
        (first
          | (have _ := q2; go_at_call 29; refine (HC2.out _ _ _ _ _ (hE.trans h2) K2 L2).mono ?_; rintro e v3 ⟨rfl, q3⟩; have h3 : Ext W0 v3 := h2.trans q3)
          | (have _ := q1; go_at_call 15; refine (HO2.out _).mono ?_; rintro e v2 ⟨b2, o2, m2, j2, rfl, K2, L2, q2⟩; have h2 : Ext W0 v2 := h1.trans q2)
          | (have _ := q0; go_at_call 29; refine (HC1.out _ _ _ _ _ (hE.trans h0) K0 L0).mono ?_; rintro e v1 ⟨rfl, q1⟩; have h1 : Ext W0 v1 := h0.trans q1)
          | (go_at_call 15; refine (HO1.out _).mono ?_; rintro e v0 ⟨b0, o0, m0, j0, rfl, K0, L0, q0⟩; have h0 : Ext W0 v0 := Ext.trans (by assumption) q0))
      go_wp2_with fail
      go_ret2
      exact ⟨rfl, hE.trans h3⟩
    · have Hs : Hid (smN z = z ∧ smB z = true) := by
        refine ⟨?_, ?_⟩
        · unfold smN; rw [if_pos (by omega)]
        · unfold smB; rw [decide_eq_true_eq]; omega
      rw [Hs.out.1, Hs.out.2]
      obtain ⟨k2, hk2⟩ : ∃ k2 : Int, k2 = if z - 9223372036854775807 < 0 then -1 else if 0 < z - 9223372036854775807 then 1 else 0 := ⟨_, rfl⟩
      have hk2n : decide (0 < k2) = false := by
        rw [decide_eq_false_iff_not, hk2]
        by_cases h : z - 9223372036854775807 < 0
        · rw [if_pos h]; omega
        · rw [if_neg h, if_neg (by omega)]; omega
      have HC2 := Lib.hid (fun wx b2 a2 n2 c2 (hx : Ext w wx) (h2 : IsZ wx b2 a2 n2 c2 9223372036854775807) (hn2 : n2 ≤ 5) => ZCmp_any neg b2 ao a2 n c n2 c2 z 9223372036854775807 wx (h.ext hx) h2 (by omega) (by omega) k2 hk2)
      obtain ⟨l, p1, p2, p3, p4, p5, p6, p7, p8⟩ := h
      have hvb : zval l ≤ 9223372036854775808 := by
        rw [p7] at hlo hhi
        cases neg <;> simp at hlo hhi <;> omega
      have Hvb := Lib.hid hvb; have P1 := Lib.hid p1; have P4 := Lib.hid p4; have P5 := Lib.hid p5; have P7 := Lib.hid p7
      have hA : n = 0 ∨ ∃ b o, ao = some ⟨b, o, none⟩ := by
        by_cases h0 : n = 0
        · exact Or.inl h0
        · exact Or.inr (p4.some_of (by omega))
      have Hhi := Lib.hid hhi
      clear hk1 hk2 p1 p2 p3 p4 p5 p6 p7 p8 hvb hlo hhi
      go_enter Tryd.func11, Tryd.ntmps11
      go_wp2_with fail
      generalize w.alloc (.cells #[.bool neg, .slice ao n c] 31) = W0 at *
      have h0d : Ext W0 W0.drew := Below.drew (Ext.refl _)
      go_region_held3 (fun w' => w'.cell? ⟨w.heap.size, 0, none⟩ = some (.bool neg) ∧ w'.cell? ⟨w.heap.size, 1, none⟩ = some (.slice ao n c))
        (exact ⟨zKeep (W := W0) (by assumption) lA x0, zKeep (W := W0) (by assumption) lA x1⟩)
        (first
          | (have _ := q2; go_at_call 29; refine (HC2.out _ _ _ _ _ (hE.trans h2) K2 L2).mono ?_; rintro e v3 ⟨rfl, q3⟩; have h3 : Ext W0 v3 := h2.trans q3)
          | (have _ := q1; go_at_call 15; refine (HO2.out _).mono ?_; rintro e v2 ⟨b2, o2, m2, j2, rfl, K2, L2, q2⟩; have h2 : Ext W0 v2 := h1.trans q2)
          | (have _ := q0; go_at_call 29; refine (HC1.out _ _ _ _ _ (hE.trans h0) K0 L0).mono ?_; rintro e v1 ⟨rfl, q1⟩; have h1 : Ext W0 v1 := h0.trans q1)
          | (go_at_call 15; refine (HO1.out _).mono ?_; rintro e v0 ⟨b0, o0, m0, j0, rfl, K0, L0, q0⟩; have h0 : Ext W0 v0 := Ext.trans (by assumption) q0))
      have d0 := zKeep h3 lA x0; have d1 := zKeep h3 lA x1
      have HE3 := Lib.hid (hE.trans h3)
      clear h0 h1 h2 h3 q0 q1 q2 q3 K0 K2 h0d x0 x1 bA lA hE HC1 HC2 HO1 HO2 H
      go_wp2_with fail
      go_loop [4, 5] (fun nv iv => ∃ k : Nat, k ≤ n ∧ iv = .int .i64 ((k : Int) - 1) ∧ nv = .int .i64 (-(zval (l.drop k) : Int))) (fun _ iv => (intOf iv + 1).toNat)
      case atStart => exact ⟨n, Nat.le_refl _, by go_num, by rw [List.drop_of_length_le (by rw [P1.out]; exact Nat.le_refl _)]; rfl⟩
      case round =>
        obtain ⟨k, hk, rfl, rfl⟩ := hrel
        by_cases hk0 : k = 0
        · subst hk0
          rw [List.drop_zero]
          obtain ⟨V, hV⟩ : ∃ V, zval l = V := ⟨_, rfl⟩
          have hVb := Hvb.out
          rw [hV] at hVb
          have HV := Lib.hid hV
          rw [hV]
          clear hV
          cases neg
          · have Hf : Hid ((V : Int) = z) := by show _ = _; rw [P7.out, HV.out]; rfl
            have hV2 : V ≤ 9223372036854775807 := by have := Hf.out; have := Hhi.out; omega
            go_wp2_with fail
            go_ret2
            refine ⟨?_, HE3.out⟩
            rw [← Hf.out]
            have e1 : - -(V : Int) = (V : Int) := by omega
            first | rfl | (show Ending.returned (.tuple #[.int .i64 (- -(V : Int)), .bool true]) = _; rw [e1]) | (simp; done)
          · have Hf : Hid (-(V : Int) = z) := by show _ = _; rw [P7.out, HV.out]; rfl
            go_wp2_with fail
            go_ret2
            refine ⟨?_, HE3.out⟩
            rw [← Hf.out]
            rfl
        · obtain ⟨j, rfl⟩ : ∃ j, k = j + 1 := ⟨k - 1, by omega⟩
          have ec : (((j + 1 : Nat) : Int) - 1) = (j : Int) := by omega
          have ij : (j : Int) < (n : Int) := by omega
          rcases hA with h0 | ⟨b, o, rfl⟩
          · omega
          have hcl := (P4.out.ext HE3.out).at j (by rw [P1.out]; omega)
          obtain ⟨x, hx⟩ : ∃ x, l.getD j 0 = x := ⟨_, rfl⟩
          have hx4 : x < 10000 := by rw [← hx]; exact P5.out.get j
          rw [hx] at hcl
          obtain ⟨V, hV⟩ : ∃ V, zval (l.drop (j + 1)) = V := ⟨_, rfl⟩
          obtain ⟨V', hV'⟩ : ∃ V', zval (l.drop j) = V' := ⟨_, rfl⟩
          have hst := zneg_step (by rw [P1.out]; omega) hx hV hV'
          have hVb : V' ≤ 9223372036854775808 := by have := zval_drop_le l j; have := Hvb.out; omega
          have hVs : 10000 * V + x ≤ 9223372036854775808 := by omega
          rw [ec, hV]
          have HV' := Lib.hid hV'
          have Hst := Lib.hid hst
          clear hx hV hV' hst hk0 ec
          go_wp2_with fail
          go_round
          case rel => exact ⟨j, by omega, by go_num, by rw [HV'.out, Hst.out]; first | go_num | (congr 1; omega)⟩
          case measure => simp [intOf]

end Go.Proofs.YtciglkaekecddaaDoor

/-
  The reference's numbers: zodd, zhalf.
-/
namespace Go.Proofs.YtciglkaekecddaaDoor
open Go.RowKit

theorem zval_odd (l : List Nat) (x : Nat) (hx : l.getD 0 0 = x) : zval l % 2 = x % 2 := by
  cases l with
  | nil => simp at hx; subst hx; rfl
  | cons y r =>
    simp at hx
    subst hx
    rw [zval]
    omega

theorem IsZ.abs {w : World} {neg : Bool} {ao : Option Addr} {n c : Nat} {z : Int} (h : IsZ w neg ao n c z) : ∃ l : List Nat, l.length = n ∧ n ≤ c ∧ c ≤ maxLen ∧ ISeg w ao l ∧ ZD l ∧ ZN l ∧ z.natAbs = zval l ∧ z = (if neg then -(zval l : Int) else (zval l : Int)) ∧ (l = [] → neg = false) := by
  obtain ⟨l, h1, h2, h3, h4, h5, h6, h7, h8⟩ := h
  exact ⟨l, h1, h2, h3, h4, h5, h6, by rw [h7]; cases neg <;> simp, h7, h8⟩

set_option maxHeartbeats 1000000 in
set_option maxRecDepth 100000 in
theorem zodd_any (neg : Bool) (ao : Option Addr) (n c : Nat) (z : Int) (w : World) (h : IsZ w neg ao n c z) (bo : Bool) (hbo : decide (z.natAbs % 2 = 1) = bo) :
    Calls Tryd.prog 54 #[.agg #[.bool neg, .slice ao n c]] w fun e w' => e = .returned (.bool bo) ∧ Ext w w' := by
  obtain ⟨l, p1, p2, p3, p4, p5, p6, p7, p8, p9⟩ := h.abs
  have hE := ext_alloc w (.cells #[.bool neg, .slice ao n c] 31)
  by_cases h0 : n = 0
  · have hl : l = [] := List.eq_nil_of_length_eq_zero (by omega)
    have hf : bo = false := by rw [← hbo, p7, hl]; rfl
    subst h0 hf
    clear hbo p8 p7 h
    go_enter Tryd.func54, Tryd.ntmps54
    go_wp2
    go_ret
    exact ⟨rfl, ext_alloc _ _⟩
  · obtain ⟨b, o, rfl⟩ := p4.some_of (by omega)
    have hcl := (p4.ext hE).at 0 (by omega)
    rw [Nat.add_zero] at hcl
    obtain ⟨x, hx⟩ : ∃ x, l.getD 0 0 = x := ⟨_, rfl⟩
    rw [hx] at hcl
    have hx4 : x < 10000 := by rw [← hx]; exact p5.get 0
    have hb : bo = decide (x % 2 = 1) := by rw [← hbo, p7, zval_odd l x hx]
    have i0 : (0 : Int) < (n : Int) := by omega
    obtain ⟨r, hr⟩ : ∃ r, x % 2 = r := ⟨_, rfl⟩
    have t1 : (x : Int).tmod 2 = (r : Int) := by rw [Int.tmod_eq_emod_of_nonneg (by omega)]; omega
    have hrb : ((r : Int) == 1) = bo := by
      rw [hb, hr, Bool.eq_iff_iff, beq_iff_eq, decide_eq_true_eq]; omega
    clear hbo p8 p7 h hb hr hx p1 p2 p3 p4 p5 p6 p9 h0
    go_enter Tryd.func54, Tryd.ntmps54
    go_wp2
    go_ret
    exact ⟨rfl, hE⟩

theorem drop_set (D : List Nat) (j x : Nat) (h : j < D.length) : (D.set j x).drop j = x :: D.drop (j + 1) := by
  rw [List.drop_eq_getElem_cons (by rw [List.length_set]; exact h), List.getElem_set_self]
  congr 1
  apply List.ext_getElem?
  intro i
  rw [List.getElem?_drop, List.getElem?_drop, List.getElem?_set_ne (by omega)]

theorem zhalf_step {D l : List Nat} {j c x c1 d c2 : Nat} (hj : j < D.length) (hjl : j < l.length) (hx : l.getD j 0 = x) (hc1 : c1 = c * 10000 + x) (hd : c1 / 2 = d) (hc2 : c1 % 2 = c2) (h : zval (D.drop (j + 1)) * 2 + c = zval (l.drop (j + 1))) :
    zval ((D.set j d).drop j) * 2 + c2 = zval (l.drop j) := by
  rw [drop_set D j d hj, zval, zval_drop l j hjl, hx]
  omega

set_option maxHeartbeats 2000000 in
set_option maxRecDepth 100000 in
theorem zhalf_any (neg : Bool) (ao : Option Addr) (n c : Nat) (z : Int) (w : World) (h : IsZ w neg ao n c z) (hn : n ≤ 400000) :
    Calls Tryd.prog 55 #[.agg #[.bool neg, .slice ao n c]] w fun e w' => ∃ (b' : Bool) (a' : Option Addr) (n' c' : Nat) (z' : Int) (bo : Bool), e = .returned (.tuple #[.agg #[.bool b', .slice a' n' c'], .bool bo]) ∧ IsZ w' b' a' n' c' z' ∧ Hid (z'.natAbs = z.natAbs / 2) ∧ n' ≤ n ∧ Ext w w' := by
  obtain ⟨l, p1, p2, p3, p4, p5, p6, p7, p8, p9⟩ := h.abs
  have hE := (ext_alloc w (.cells #[.bool neg, .slice ao n c] 31)).trans (ext_alloc _ (.cells #[.bool false, .slice none 0 0] 31))
  have bA := (zbx_new w neg ao n c).ext (ext_alloc _ (.cells #[.bool false, .slice none 0 0] 31))
  have hR := zres_new (w.alloc (.cells #[.bool neg, .slice ao n c] 31))
  rw [show (w.alloc (.cells #[.bool neg, .slice ao n c] 31)).heap.size = w.heap.size + 1 from by simp] at hR
  have hA : n = 0 ∨ ∃ b o, ao = some ⟨b, o, none⟩ := by
    by_cases h0 : n = 0
    · exact Or.inl h0
    · exact Or.inr (p4.some_of (by omega))
  have P1 := Lib.hid p1; have P4 := Lib.hid p4; have P5 := Lib.hid p5; have P7 := Lib.hid p7
  have x0 := bA.c0; have x1 := bA.c1
  clear p1 p2 p3 p4 p5 p6 p7 p8 p9 h
  go_enter Tryd.func55, Tryd.ntmps55
  go_wp2_with (at_make; refine wpList_make_irow _ rfl _ _ rfl _ _ _ _ n rfl rfl (by omega) (by omega) (by omega) ?_; intro w1 hr1 he1 hz1; have d1 := zKeep he1 bA.lt x1)
  have hWB : ((w.alloc (.cells #[.bool neg, .slice ao n c] 31)).alloc (.cells #[.bool false, .slice none 0 0] 31)).heap.size = w.heap.size + 1 + 1 := by simp
  generalize (w.alloc (.cells #[.bool neg, .slice ao n c] 31)).alloc (.cells #[.bool false, .slice none 0 0] 31) = WB at *
  rw [hWB] at hr1
  have HWB := Lib.hid hWB
  clear hWB d1
  go_loopw [5, 6] (fun cv iv wr => ∃ (k c : Nat) (D : List Nat), k ≤ n ∧ iv = .int .i64 ((k : Int) - 1) ∧ cv = .int .i64 c ∧ c ≤ 1 ∧ D.length = n ∧ ZD D ∧ IRow wr (w.heap.size + 1 + 1) D ∧ zval (D.drop k) * 2 + c = zval (l.drop k) ∧ Ext WB wr) (fun _ iv _ => (intOf iv + 1).toNat)
  case atStart => exact ⟨n, 0, List.replicate n 0, Nat.le_refl _, by go_num, rfl, by omega, by simp, ZD.replicate _, hr1, by rw [List.drop_of_length_le (by simp), List.drop_of_length_le (by rw [P1.out]; exact Nat.le_refl _)]; rfl, he1⟩
  case round =>
    clear hr1 he1 hz1
    obtain ⟨k, cc, D, hk, rfl, rfl, hc1, hD, hdD, hrD, hinv, hEr⟩ := hrel
    have HD := Lib.hid hD; have HdD := Lib.hid hdD; have HrD := Lib.hid hrD; have Hinv := Lib.hid hinv; have HEr := Lib.hid hEr
    have d0 := zKeep hEr bA.lt x0; have d1 := zKeep hEr bA.lt x1
    clear hD hdD hrD hinv hEr
    by_cases hk0 : k = 0
    · subst hk0
      have hv : zval D * 2 + cc = zval l := by have := Hinv.out; rwa [List.drop_zero, List.drop_zero] at this
      obtain ⟨z', hz'⟩ : ∃ z' : Int, z' = if neg = true then -(zval D : Int) else (zval D : Int) := ⟨_, rfl⟩
      have Hz' : Hid (z'.natAbs = z.natAbs / 2) := by
        show _ = _
        rw [P7.out, hz']
        cases neg <;> simp <;> omega
      have Hm := Lib.hid (fun wx (hx : IRow wx (w.heap.size + 1 + 1) D) => zmade_any neg (some ⟨w.heap.size + 1 + 1, 0, none⟩) D n n wx HD.out hx.seg HdD.out (Nat.le_refl _) (by unfold maxLen; omega) (by omega) z' hz')
      clear hv hz'
      go_wp2_with fail
      refine (Hm.out _ HrD.out).mono ?_
      rintro e w9 ⟨b', a', n', c', rfl, hI, hle, hx9⟩
      have hR9 := hR.ext (HEr.out.trans hx9)
      have k0 := hR9.c0; have k1 := hR9.c1; have f0 := hR9.f 0; have f1 := hR9.f 1
      go_wp2_with fail
      exact bodyPost_ret (v := .tuple #[.agg #[.bool b', .slice a' n' c'], .bool (decide ((0 : Int) < (cc : Int)))]) (by simp [results, Tryd.results55, go_sem, k0, k1]) rfl ⟨b', a', n', c', z', _, rfl, hI.keepRes hR9.row _ _, Hz', hle, zput2 (hE.trans (HEr.out.trans hx9)) (by omega) _ _⟩
    · obtain ⟨j, rfl⟩ : ∃ j, k = j + 1 := ⟨k - 1, by omega⟩
      have ec : (((j + 1 : Nat) : Int) - 1) = (j : Int) := by omega
      have ij : (j : Int) < (n : Int) := by omega
      rcases hA with h0 | ⟨b, o, rfl⟩
      · omega
      have hcl := (P4.out.ext (hE.trans HEr.out)).at j (by rw [P1.out]; omega)
      obtain ⟨x, hx⟩ : ∃ x, l.getD j 0 = x := ⟨_, rfl⟩
      have hx4 : x < 10000 := by rw [← hx]; exact P5.out.get j
      rw [hx] at hcl
      have hcM := HrD.out.cell j (by rw [HD.out]; omega)
      have hfz := HrD.out.frozen j
      obtain ⟨yy, hyy⟩ : ∃ yy, D.getD j 0 = yy := ⟨_, rfl⟩
      rw [hyy] at hcM
      obtain ⟨d, hd⟩ : ∃ d, (cc * 10000 + x) / 2 = d := ⟨_, rfl⟩
      obtain ⟨c2, hc2⟩ : ∃ c2, (cc * 10000 + x) % 2 = c2 := ⟨_, rfl⟩
      have Hst := Lib.hid (zhalf_step (by rw [HD.out]; omega) (by rw [P1.out]; omega) hx rfl hd hc2 Hinv.out)
      have hd4 : d < 10000 := by omega
      have hc21 : c2 ≤ 1 := by omega
      have t1 : ((cc : Int) * 10000 + (x : Int)).tdiv 2 = (d : Int) := by rw [Int.tdiv_eq_ediv_of_nonneg (by omega)]; omega
      have t2 : ((cc : Int) * 10000 + (x : Int)).tmod 2 = (c2 : Int) := by rw [Int.tmod_eq_emod_of_nonneg (by omega)]; omega
      rw [ec]
      clear hx hd hc2 hk0 ec hyy
      go_wp2_with fail
      go_roundw
      case rel => exact ⟨j, c2, D.set j d, by omega, by go_num, rfl, hc21, by rw [List.length_set]; exact HD.out, HdD.out.set _ _ hd4, HrD.out.set _ _, Hst.out, Below.setCell HEr.out (by rw [HWB.out]; exact Nat.le_refl _) _⟩
      case measure => simp [intOf]

end Go.Proofs.YtciglkaekecddaaDoor
