/-
  The reference's numbers: ZTwos.
-/
import Derived.Test.YtciglkaekecddaaDoorMZO
import Derived.Test.YtciglkaekecddaaDoorMBase

namespace Go.Proofs.YtciglkaekecddaaDoor
open Go.RowKit

theorem ZBx.own {W : World} {g : Nat} {b : Bool} {a : Option Addr} {n c : Nat} (h : ZBx W g b a n c) (b' : Bool) (a' : Option Addr) (n' c' : Nat) : ZBx ((W.setCell ⟨g, 0, none⟩ (.bool b')).setCell ⟨g, 1, none⟩ (.slice a' n' c')) g b' a' n' c' := by
  have h1 := heap_setCell_same W g 0 _ _ (.bool b') h.row
  have h2 := heap_setCell_same _ g 1 _ _ (.slice a' n' c') h1
  exact ⟨by rw [h2]; rfl⟩
theorem ZBx.f {W : World} {g : Nat} {b : Bool} {a : Option Addr} {n c : Nat} (h : ZBx W g b a n c) (o : Nat) : W.frozen? ⟨g, o, none⟩ = false := frozen_of_row W g o _ _ h.row

theorem zt_few {t v V n : Nat} (h : V = 2 ^ t * v) (hv : 0 < v) (hV : V < 10000 ^ n) : t < 14 * n := by
  apply Nat.lt_of_not_le
  intro hk
  have h1 : (2 : Nat) ^ (14 * n) ≤ 2 ^ t := Nat.pow_le_pow_right (by decide) hk
  have h2 : (10000 : Nat) ^ n ≤ 2 ^ (14 * n) := by
    rw [Nat.pow_mul]
    exact Nat.pow_le_pow_left (by decide) n
  have h3 : 2 ^ t ≤ 2 ^ t * v := Nat.le_mul_of_pos_right _ hv
  omega

theorem IsZ.zero_iff {w : World} {neg : Bool} {ao : Option Addr} {n c : Nat} {z : Int} (h : IsZ w neg ao n c z) : (n = 0 ↔ z.natAbs = 0) ∧ z.natAbs < 10000 ^ n := by
  obtain ⟨l, p1, p2, p3, p4, p5, p6, p7, p8, p9⟩ := h.abs
  refine ⟨⟨fun h0 => ?_, fun h0 => ?_⟩, ?_⟩
  · have e : l = [] := List.eq_nil_of_length_eq_zero (by omega)
    rw [p7, e]; rfl
  · rw [p7] at h0
    have := (zval_zero p6).1 h0
    rw [← p1, this]; rfl
  · rw [p7, ← p1]; exact zval_lt p5

set_option maxHeartbeats 2000000 in
set_option maxRecDepth 100000 in
theorem ZTwos_any (neg : Bool) (ao : Option Addr) (n c : Nat) (z : Int) (w : World) (h : IsZ w neg ao n c z) (hn : n ≤ 400000) :
    Calls Tryd.prog 21 #[.agg #[.bool neg, .slice ao n c]] w fun e w' => ∃ t : Nat, e = .returned (.int .i64 t) ∧ (z ≠ 0 → Tw z.natAbs t) ∧ (z = 0 → t = 0) ∧ Ext w w' := by
  have hlt := h.zero_iff.2
  have hE := ext_alloc w (.cells #[.bool neg, .slice ao n c] 31)
  have bA := zbx_new w neg ao n c
  have hI := h.ext hE
  have Hlt := Lib.hid hlt
  clear h hlt
  go_enter Tryd.func21, Tryd.ntmps21
  go_wp2_with fail
  generalize w.alloc (.cells #[.bool neg, .slice ao n c] 31) = W0 at *
  go_loopw [3] (fun nv wr => ∃ (t : Nat) (b : Bool) (a : Option Addr) (m c' : Nat) (z' : Int), nv = .int .i64 t ∧ t ≤ 14 * n + 1 ∧ ZBx wr w.heap.size b a m c' ∧ IsZ wr b a m c' z' ∧ z.natAbs = 2 ^ t * z'.natAbs ∧ m ≤ n ∧ (z.natAbs = 0 → t = 0) ∧ Ext w wr) (fun nv _ => 14 * n + 1 - (intOf nv).toNat)
  case atStart => exact ⟨0, neg, ao, n, c, z, rfl, by omega, bA, hI, by simp, Nat.le_refl _, fun _ => rfl, hE⟩
  case round =>
    clear bA hI hE
    obtain ⟨t, b, a, m, c', z', rfl, ht, hb, hI, hv, hm, ht0, hEr⟩ := hrel
    have hz := hI.zero_iff.1
    have Hz := Lib.hid hz; have Hv := Lib.hid hv; have Ht0 := Lib.hid ht0; have HI := Lib.hid hI; have Hb := Lib.hid hb; have HEr := Lib.hid hEr
    have c0 := hb.c0; have c1 := hb.c1
    clear hz hv ht0 hI hb hEr
    by_cases hm0 : m = 0
    · have h0 : z.natAbs = 0 := by rw [Hv.out, Hz.out.1 hm0, Nat.mul_zero]
      obtain rfl : t = 0 := Ht0.out h0
      subst hm0
      have H0 := Lib.hid h0
      clear h0
      go_wp2_with fail
      go_ret
      exact ⟨0, rfl, fun h => absurd (Int.natAbs_eq_zero.1 H0.out) h, fun _ => rfl, HEr.out⟩
    · have im : (0 : Int) < (m : Int) := by omega
      have hp : 0 < z'.natAbs := Nat.pos_of_ne_zero fun e => hm0 (Hz.out.2 e)
      have htf : t < 14 * n := zt_few Hv.out hp Hlt.out
      have hzne : z ≠ 0 := by
        intro e
        have h1 := Hv.out
        rw [e] at h1
        have h2 : 0 < 2 ^ t * z'.natAbs := Nat.mul_pos (Nat.pow_pos (by decide)) hp
        simp at h1
        omega
      have Hp := Lib.hid hp; have Hzne := Lib.hid hzne
      clear hp hzne hm0
      by_cases hodd : z'.natAbs % 2 = 1
      · have Hod := Lib.hid (zodd_any b a m c' z' wr HI.out true (decide_eq_true hodd))
        have Htw : Hid (Tw z.natAbs t) := ⟨z'.natAbs / 2, by rw [Hv.out]; congr 1; omega⟩
        clear hodd
        go_wp2_with fail
        refine Hod.out.mono ?_
        rintro e w1 ⟨rfl, hx1⟩
        go_wp2_with fail
        go_ret
        exact ⟨t, rfl, fun _ => Htw.out, fun e => absurd e Hzne.out, HEr.out.trans hx1⟩
      · have Hod := Lib.hid (zodd_any b a m c' z' wr HI.out false (decide_eq_false hodd))
        have Hev : Hid (z'.natAbs % 2 = 0) := by show _ = _; omega
        clear hodd
        go_wp2_with fail
        refine Hod.out.mono ?_
        rintro e w1 ⟨rfl, hx1⟩
        have hb1 := Hb.out.ext hx1
        have y0 := hb1.c0; have y1 := hb1.c1
        go_wp2_with fail
        refine (zhalf_any b a m c' z' w1 (HI.out.ext hx1) (by omega)).mono ?_
        rintro e w2 ⟨b2, a2, n2, c2, z2, bo, rfl, hI2, Hz2, hn2, hx2⟩
        have hb2 := hb1.ext hx2
        have u0 := hb2.c0; have u1 := hb2.c1; have f0 := hb2.f 0; have f1 := hb2.f 1
        go_wp2_with fail
        go_roundw
        case rel => exact ⟨t + 1, b2, a2, n2, c2, z2, by go_num, by omega, hb2.own _ _ _ _, hI2.keepRes hb2.row _ _, by
          rw [Hv.out, Hz2.out, Nat.pow_succ, Nat.mul_assoc]
          congr 1
          have := Hev.out
          omega, by omega, fun e => absurd (Int.natAbs_eq_zero.1 e) Hzne.out, zput2 (HEr.out.trans (hx1.trans hx2)) (Nat.le_refl _) _ _⟩
        case measure => simp [intOf]; omega

/-- There is one number of twos alone. -/
theorem Tw.one {v t t' : Nat} (h : Tw v t) (h' : Tw v t') : t = t' := by
  have h1 := (h.dvd t').1 ((h'.dvd t').2 (Nat.le_refl _))
  have h2 := (h'.dvd t).1 ((h.dvd t).2 (Nat.le_refl _))
  omega

end Go.Proofs.YtciglkaekecddaaDoor
