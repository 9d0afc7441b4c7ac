/-
  The reference's numbers: ZOf.
-/
import Derived.Test.YtfjbhiihfibbaaaDoorMZL

namespace Go.Proofs.YtfjbhiihfibbaaaDoor
open Go.RowKit

theorem zof_few {k u v : Nat} (hu : 0 < u) (h : 10000 ^ k * u ≤ v) (hv : v ≤ 9223372036854775808) : k < 5 := by
  apply Nat.lt_of_not_le
  intro hk
  have h1 : (10000 : Nat) ^ 5 ≤ 10000 ^ k := Nat.pow_le_pow_right (by decide) hk
  have h2 : 10000 ^ k ≤ 10000 ^ k * u := Nat.le_mul_of_pos_right _ hu
  omega

theorem zof_step {l : List Nat} {k u v d q : Nat} (hl : l.length = k) (h : zval l + 10000 ^ k * u = v) (hd : u % 10000 = d) (hq : u / 10000 = q) : zval (l ++ [d]) + 10000 ^ (k + 1) * q = v := by
  rw [zval_snoc, hl, Nat.pow_succ, Nat.mul_assoc, Nat.add_assoc, ← Nat.mul_add]
  rw [← h]
  congr 2
  omega

set_option maxHeartbeats 2000000 in
set_option maxRecDepth 100000 in
theorem ZOf_any (n : Int) (h1 : -9223372036854775808 ≤ n) (h2 : n ≤ 9223372036854775807) (w : World) :
    Calls Tryd.prog 64 #[.int .i64 n] w (ZRet w n 5) := by
  obtain ⟨i0, hi, hz0, hz1, hz2⟩ := info_parts int_info
  have hE := ext_alloc w (.cells #[.bool false, .slice none 0 0] 94)
  have hR := zres_new w
  obtain ⟨v, hv⟩ : ∃ v, n.natAbs = v := ⟨_, rfl⟩
  have hvb : v ≤ 9223372036854775808 := by omega
  by_cases hneg : n < 0
  · obtain ⟨X, hX⟩ : ∃ X : Nat, IntKind.u64.wrap n = (X : Int) := ⟨(IntKind.u64.wrap n).toNat, by rw [IntKind.wrap_u64]; omega⟩
    have hX2 : IntKind.u64.wrap (-(X : Int)) = (v : Int) := by rw [IntKind.wrap_u64] at hX ⊢; omega
    have Hz : Hid (n = if true = true then -(v : Int) else (v : Int)) := by show _ = _; simp; omega
    have Hvb := Lib.hid hvb
    clear hv hvb
    go_enter Tryd.func64, Tryd.ntmps64
    go_wp2_with fail
    generalize w.alloc (.cells #[.bool false, .slice none 0 0] 94) = W0 at *
    clear hX hX2
    go_loopw [3, 4] (fun uv dv wr => ∃ (k u : Nat) (l : List Nat), uv = .int .u64 u ∧ l.length = k ∧ k ≤ 5 ∧ ZD l ∧ wr.ownsRow W0.heap.size 3 1 dv k (inC l) ∧ zval l + 10000 ^ k * u = v ∧ Ext W0 wr) (fun uv _ _ => (intOf uv).toNat)
    case atStart => exact ⟨0, v, [], by go_num, rfl, by omega, ZD.nil, (show W0.ownsRow W0.heap.size 3 1 (.slice none 0 0) 0 (inC []) from World.ownsRow_nil _ _ _ _), by simp [zval], Ext.refl _⟩
    case round =>
      obtain ⟨k, u, l, rfl, hl, hk, hd, hown, hval, hEr⟩ := hrel
      have Hl := Lib.hid hl; have Hd := Lib.hid hd; have Hval := Lib.hid hval; have Hown := Lib.hid hown
      by_cases hu : 0 < u
      · have hk5 : k < 5 := zof_few hu (by omega) Hvb.out
        have iu : (0 : Int) < (u : Int) := by omega
        obtain ⟨dg, hdg⟩ : ∃ dg, u % 10000 = dg := ⟨_, rfl⟩
        obtain ⟨q, hq⟩ : ∃ q, u / 10000 = q := ⟨_, rfl⟩
        have Hst := Lib.hid (zof_step hl hval hdg hq)
        have hdl : dg < 10000 := by omega
        have hqu : q < u := by omega
        have hub : u ≤ 9223372036854775808 := by
          have h0 := Hvb.out
          have h1 : 1 ≤ 10000 ^ k := Nat.one_le_pow _ _ (by decide)
          have h2 : 1 * u ≤ 10000 ^ k * u := Nat.mul_le_mul_right _ h1
          omega
        have r1 : (u : Int).tmod 10000 = (dg : Int) := by rw [Int.tmod_eq_emod_of_nonneg (by omega)]; omega
        have r2 : (u : Int) % 10000 = (dg : Int) := by omega
        have r3 : (u : Int).tdiv 10000 = (q : Int) := by rw [Int.tdiv_eq_ediv_of_nonneg (by omega)]; omega
        have r4 : (u : Int) / 10000 = (q : Int) := by omega
        clear hdg hq hl hd hown hval
        go_wp2_with (at_builtin; refine wpList_append_own _ rfl _ _ 32 rfl W0.heap.size 3 i0 (.int .i64 0) 1 8 Tryd.underlying32 hi hz0 hz1 hz2 rfl (by decide) _ k (inC l) rfl (Hown.out.alloc _) ⟨wr.heap.size, 0, none⟩ 1 1 [.int .i64 (dg : Int)] rfl rfl (new_int wr _ _) (one_int _) (by unfold maxLen; omega) (by omega) (Nat.le_trans hEr.size (ext_alloc wr _).size) ?_; intro v' w' hown' hgrow' _)
        go_roundw
        case rel => exact ⟨k + 1, q, l ++ [dg], by go_num, by rw [List.length_append, Hl.out]; rfl, by omega, Hd.out.snoc hdl, by rw [inC_snoc]; exact hown', Hst.out, ext_grown (hEr.trans (ext_alloc wr _)) hgrow' (fun j hj => (Hown.out.lt j hj).1)⟩
        case measure => simp [intOf]; omega
      · obtain rfl : u = 0 := by omega
        have hzl : zval l = v := by have := Hval.out; omega
        obtain ⟨a9, c9, rfl, q1, q2, q3, q4⟩ := iseg_of_own Hown.out
        have Hm := Lib.hid (zmade_any true a9 l k c9 wr q3 q4 Hd.out q1 q2 (by omega) n (by rw [hzl]; exact Hz.out))
        clear hl hd hown hval hzl
        go_wp2_with fail
        refine Hm.out.mono ?_
        rintro e w9 ⟨b', a', n', c', rfl, hI, hle, hx9⟩
        have hR9 := hR.ext (hEr.trans hx9)
        have k0 := hR9.c0; have k1 := hR9.c1; have f0 := hR9.f 0; have f1 := hR9.f 1
        go_wp2_with fail
        exact bodyPost_ret (v := .agg #[.bool b', .slice a' n' c']) (by simp [results, Tryd.results64, go_sem, k0, k1]) rfl ⟨b', a', n', c', rfl, hI.keepRes hR9.row _ _, by omega, zput2 (hE.trans (hEr.trans hx9)) (Nat.le_refl _) _ _⟩
  · have hX : IntKind.u64.wrap n = (v : Int) := by rw [IntKind.wrap_u64]; omega
    have hnd : decide (n < 0) = false := by rw [decide_eq_false_iff_not]; exact hneg
    have Hz : Hid (n = if false = true then -(v : Int) else (v : Int)) := by show _ = _; simp; omega
    have Hvb := Lib.hid hvb
    clear hv hvb
    go_enter Tryd.func64, Tryd.ntmps64
    go_wp2_with fail
    generalize w.alloc (.cells #[.bool false, .slice none 0 0] 94) = W0 at *
    clear hX
    go_loopw [3, 4] (fun uv dv wr => ∃ (k u : Nat) (l : List Nat), uv = .int .u64 u ∧ l.length = k ∧ k ≤ 5 ∧ ZD l ∧ wr.ownsRow W0.heap.size 3 1 dv k (inC l) ∧ zval l + 10000 ^ k * u = v ∧ Ext W0 wr) (fun uv _ _ => (intOf uv).toNat)
    case atStart => exact ⟨0, v, [], by go_num, rfl, by omega, ZD.nil, (show W0.ownsRow W0.heap.size 3 1 (.slice none 0 0) 0 (inC []) from World.ownsRow_nil _ _ _ _), by simp [zval], Ext.refl _⟩
    case round =>
      obtain ⟨k, u, l, rfl, hl, hk, hd, hown, hval, hEr⟩ := hrel
      have Hl := Lib.hid hl; have Hd := Lib.hid hd; have Hval := Lib.hid hval; have Hown := Lib.hid hown
      by_cases hu : 0 < u
      · have hk5 : k < 5 := zof_few hu (by omega) Hvb.out
        have iu : (0 : Int) < (u : Int) := by omega
        obtain ⟨dg, hdg⟩ : ∃ dg, u % 10000 = dg := ⟨_, rfl⟩
        obtain ⟨q, hq⟩ : ∃ q, u / 10000 = q := ⟨_, rfl⟩
        have Hst := Lib.hid (zof_step hl hval hdg hq)
        have hdl : dg < 10000 := by omega
        have hqu : q < u := by omega
        have hub : u ≤ 9223372036854775808 := by
          have h0 := Hvb.out
          have h1 : 1 ≤ 10000 ^ k := Nat.one_le_pow _ _ (by decide)
          have h2 : 1 * u ≤ 10000 ^ k * u := Nat.mul_le_mul_right _ h1
          omega
        have r1 : (u : Int).tmod 10000 = (dg : Int) := by rw [Int.tmod_eq_emod_of_nonneg (by omega)]; omega
        have r2 : (u : Int) % 10000 = (dg : Int) := by omega
        have r3 : (u : Int).tdiv 10000 = (q : Int) := by rw [Int.tdiv_eq_ediv_of_nonneg (by omega)]; omega
        have r4 : (u : Int) / 10000 = (q : Int) := by omega
        clear hdg hq hl hd hown hval
        go_wp2_with (at_builtin; refine wpList_append_own _ rfl _ _ 32 rfl W0.heap.size 3 i0 (.int .i64 0) 1 8 Tryd.underlying32 hi hz0 hz1 hz2 rfl (by decide) _ k (inC l) rfl (Hown.out.alloc _) ⟨wr.heap.size, 0, none⟩ 1 1 [.int .i64 (dg : Int)] rfl rfl (new_int wr _ _) (one_int _) (by unfold maxLen; omega) (by omega) (Nat.le_trans hEr.size (ext_alloc wr _).size) ?_; intro v' w' hown' hgrow' _)
        go_roundw
        case rel => exact ⟨k + 1, q, l ++ [dg], by go_num, by rw [List.length_append, Hl.out]; rfl, by omega, Hd.out.snoc hdl, by rw [inC_snoc]; exact hown', Hst.out, ext_grown (hEr.trans (ext_alloc wr _)) hgrow' (fun j hj => (Hown.out.lt j hj).1)⟩
        case measure => simp [intOf]; omega
      · obtain rfl : u = 0 := by omega
        have hzl : zval l = v := by have := Hval.out; omega
        obtain ⟨a9, c9, rfl, q1, q2, q3, q4⟩ := iseg_of_own Hown.out
        have Hm := Lib.hid (zmade_any false a9 l k c9 wr q3 q4 Hd.out q1 q2 (by omega) n (by rw [hzl]; exact Hz.out))
        clear hl hd hown hval hzl
        go_wp2_with fail
        refine Hm.out.mono ?_
        rintro e w9 ⟨b', a', n', c', rfl, hI, hle, hx9⟩
        have hR9 := hR.ext (hEr.trans hx9)
        have k0 := hR9.c0; have k1 := hR9.c1; have f0 := hR9.f 0; have f1 := hR9.f 1
        go_wp2_with fail
        exact bodyPost_ret (v := .agg #[.bool b', .slice a' n' c']) (by simp [results, Tryd.results64, go_sem, k0, k1]) rfl ⟨b', a', n', c', rfl, hI.keepRes hR9.row _ _, by omega, zput2 (hE.trans (hEr.trans hx9)) (Nat.le_refl _) _ _⟩

end Go.Proofs.YtfjbhiihfibbaaaDoor
