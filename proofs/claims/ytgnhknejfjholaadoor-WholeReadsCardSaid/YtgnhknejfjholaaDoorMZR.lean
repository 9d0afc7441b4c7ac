/-
  The reference's numbers: ZTwos.
-/
import Derived.Test.YtgnhknejfjholaaDoorMZO
import Derived.Test.YtgnhknejfjholaaDoorMBase
import Derived.Test.YtgnhknejfjholaaDoorMTxP
import Derived.Test.YtgnhknejfjholaaDoorMIntC

namespace Go.Proofs.YtgnhknejfjholaaDoor
open Go.RowKit

theorem ZBx.own {W : World} {g : Nat} {b : Bool} {a : Option Addr} {n c : Nat} (h : ZBx W g b a n c) (b' : Bool) (a' : Option Addr) (n' c' : Nat) : ZBx ((W.setCell ⟨g, 0, none⟩ (.bool b')).setCell ⟨g, 1, none⟩ (.slice a' n' c')) g b' a' n' c' := by
  have h1 := heap_setCell_same W g 0 _ _ (.bool b') h.row
  have h2 := heap_setCell_same _ g 1 _ _ (.slice a' n' c') h1
  exact ⟨by rw [h2]; rfl⟩
theorem ZBx.f {W : World} {g : Nat} {b : Bool} {a : Option Addr} {n c : Nat} (h : ZBx W g b a n c) (o : Nat) : W.frozen? ⟨g, o, none⟩ = false := frozen_of_row W g o _ _ h.row

theorem zt_few {t v V n : Nat} (h : V = 2 ^ t * v) (hv : 0 < v) (hV : V < 10000 ^ n) : t < 14 * n := by
  apply Nat.lt_of_not_le
  intro hk
  have h1 : (2 : Nat) ^ (14 * n) ≤ 2 ^ t := Nat.pow_le_pow_right (by decide) hk
  have h2 : (10000 : Nat) ^ n ≤ 2 ^ (14 * n) := by
    rw [Nat.pow_mul]
    exact Nat.pow_le_pow_left (by decide) n
  have h3 : 2 ^ t ≤ 2 ^ t * v := Nat.le_mul_of_pos_right _ hv
  omega

theorem IsZ.zero_iff {w : World} {neg : Bool} {ao : Option Addr} {n c : Nat} {z : Int} (h : IsZ w neg ao n c z) : (n = 0 ↔ z.natAbs = 0) ∧ z.natAbs < 10000 ^ n := by
  obtain ⟨l, p1, p2, p3, p4, p5, p6, p7, p8, p9⟩ := h.abs
  refine ⟨⟨fun h0 => ?_, fun h0 => ?_⟩, ?_⟩
  · have e : l = [] := List.eq_nil_of_length_eq_zero (by omega)
    rw [p7, e]; rfl
  · rw [p7] at h0
    have := (zval_zero p6).1 h0
    rw [← p1, this]; rfl
  · rw [p7, ← p1]; exact zval_lt p5

set_option maxHeartbeats 2000000 in
set_option maxRecDepth 100000 in
theorem ZTwos_any (neg : Bool) (ao : Option Addr) (n c : Nat) (z : Int) (w : World) (h : IsZ w neg ao n c z) (hn : n ≤ 400000) :
    Calls Tryd.prog 21 #[.agg #[.bool neg, .slice ao n c]] w fun e w' => ∃ t : Nat, e = .returned (.int .i64 t) ∧ (z ≠ 0 → Tw z.natAbs t) ∧ (z = 0 → t = 0) ∧ Ext w w' := by
  have hlt := h.zero_iff.2
  have hE := ext_alloc w (.cells #[.bool neg, .slice ao n c] 31)
  have bA := zbx_new w neg ao n c
  have hI := h.ext hE
  have Hlt := Lib.hid hlt
  clear h hlt
  go_enter Tryd.func21, Tryd.ntmps21
  go_wp2_with fail
  generalize w.alloc (.cells #[.bool neg, .slice ao n c] 31) = W0 at *
  go_loopw [3] (fun nv wr => ∃ (t : Nat) (b : Bool) (a : Option Addr) (m c' : Nat) (z' : Int), nv = .int .i64 t ∧ t ≤ 14 * n + 1 ∧ ZBx wr w.heap.size b a m c' ∧ IsZ wr b a m c' z' ∧ z.natAbs = 2 ^ t * z'.natAbs ∧ m ≤ n ∧ (z.natAbs = 0 → t = 0) ∧ Ext w wr) (fun nv _ => 14 * n + 1 - (intOf nv).toNat)
  case atStart => exact ⟨0, neg, ao, n, c, z, rfl, by omega, bA, hI, by simp, Nat.le_refl _, fun _ => rfl, hE⟩
  case round =>
    clear bA hI hE
    obtain ⟨t, b, a, m, c', z', rfl, ht, hb, hI, hv, hm, ht0, hEr⟩ := hrel
    have hz := hI.zero_iff.1
    have Hz := Lib.hid hz; have Hv := Lib.hid hv; have Ht0 := Lib.hid ht0; have HI := Lib.hid hI; have Hb := Lib.hid hb; have HEr := Lib.hid hEr
    have c0 := hb.c0; have c1 := hb.c1
    clear hz hv ht0 hI hb hEr
    by_cases hm0 : m = 0
    · have h0 : z.natAbs = 0 := by rw [Hv.out, Hz.out.1 hm0, Nat.mul_zero]
      obtain rfl : t = 0 := Ht0.out h0
      subst hm0
      have H0 := Lib.hid h0
      clear h0
      go_wp2_with fail
      go_ret
      exact ⟨0, rfl, fun h => absurd (Int.natAbs_eq_zero.1 H0.out) h, fun _ => rfl, HEr.out⟩
    · have im : (0 : Int) < (m : Int) := by omega
      have hp : 0 < z'.natAbs := Nat.pos_of_ne_zero fun e => hm0 (Hz.out.2 e)
      have htf : t < 14 * n := zt_few Hv.out hp Hlt.out
      have hzne : z ≠ 0 := by
        intro e
        have h1 := Hv.out
        rw [e] at h1
        have h2 : 0 < 2 ^ t * z'.natAbs := Nat.mul_pos (Nat.pow_pos (by decide)) hp
        simp at h1
        omega
      have Hp := Lib.hid hp; have Hzne := Lib.hid hzne
      clear hp hzne hm0
      by_cases hodd : z'.natAbs % 2 = 1
      · have Hod := Lib.hid (zodd_any b a m c' z' wr HI.out true (decide_eq_true hodd))
        have Htw : Hid (Tw z.natAbs t) := ⟨z'.natAbs / 2, by rw [Hv.out]; congr 1; omega⟩
        clear hodd
        go_wp2_with fail
        refine Hod.out.mono ?_
        rintro e w1 ⟨rfl, hx1⟩
        go_wp2_with fail
        go_ret
        exact ⟨t, rfl, fun _ => Htw.out, fun e => absurd e Hzne.out, HEr.out.trans hx1⟩
      · have Hod := Lib.hid (zodd_any b a m c' z' wr HI.out false (decide_eq_false hodd))
        have Hev : Hid (z'.natAbs % 2 = 0) := by show _ = _; omega
        clear hodd
        go_wp2_with fail
        refine Hod.out.mono ?_
        rintro e w1 ⟨rfl, hx1⟩
        have hb1 := Hb.out.ext hx1
        have y0 := hb1.c0; have y1 := hb1.c1
        go_wp2_with fail
        refine (zhalf_any b a m c' z' w1 (HI.out.ext hx1) (by omega)).mono ?_
        rintro e w2 ⟨b2, a2, n2, c2, z2, bo, rfl, hI2, Hz2, hn2, hx2⟩
        have hb2 := hb1.ext hx2
        have u0 := hb2.c0; have u1 := hb2.c1; have f0 := hb2.f 0; have f1 := hb2.f 1
        go_wp2_with fail
        go_roundw
        case rel => exact ⟨t + 1, b2, a2, n2, c2, z2, by go_num, by omega, hb2.own _ _ _ _, hI2.keepRes hb2.row _ _, by
          rw [Hv.out, Hz2.out, Nat.pow_succ, Nat.mul_assoc]
          congr 1
          have := Hev.out
          omega, by omega, fun e => absurd (Int.natAbs_eq_zero.1 e) Hzne.out, zput2 (HEr.out.trans (hx1.trans hx2)) (Nat.le_refl _) _ _⟩
        case measure => simp [intOf]; omega

/-- There is one number of twos alone. -/
theorem Tw.one {v t t' : Nat} (h : Tw v t) (h' : Tw v t') : t = t' := by
  have h1 := (h.dvd t').1 ((h'.dvd t').2 (Nat.le_refl _))
  have h2 := (h'.dvd t).1 ((h.dvd t).2 (Nat.le_refl _))
  omega

end Go.Proofs.YtgnhknejfjholaaDoor

/-
  What is read is written as it stood; ZSign; the number of twos.
-/
namespace Go.Proofs.YtgnhknejfjholaaDoor
open Go.RowKit

theorem AllD.snoc_iff {d : List Nat} {x : Nat} (h : AllD (d ++ [x])) : AllD d ∧ isD x = true := by
  refine ⟨fun t ht => ?_, ?_⟩
  · have := h t (by rw [List.length_append]; omega)
    rwa [List.getD_eq_getElem?_getD, List.getElem?_append_left ht, ← List.getD_eq_getElem?_getD] at this
  · have := h d.length (by simp)
    rwa [List.getD_eq_getElem?_getD, List.getElem?_append_right (Nat.le_refl _), Nat.sub_self] at this

/-- Digits without a nought ahead are what is written of their number. -/
theorem decN_back : ∀ (n : Nat) (d : List Nat), d.length = n + 1 → AllD d → d.getD 0 0 ≠ 48 → 0 < dval d ∧ decN (dval d) = d := by
  intro n
  induction n with
  | zero =>
    intro d hl hd h0
    obtain ⟨x, rfl⟩ := List.length_eq_one_iff.1 hl
    have hx := hd 0 (by simp)
    simp only [List.getD_cons_zero, isD, decide_eq_true_eq] at hx h0
    have hv : dval [x] = x - 48 := by simp [dval]
    rw [hv]
    refine ⟨by omega, ?_⟩
    rw [decN_small (by omega)]
    congr 1
    omega
  | succ n ih =>
    intro d hl hd h0
    have hne : d ≠ [] := by intro e; subst e; simp at hl
    obtain ⟨d', x, rfl⟩ : ∃ d' x, d = d' ++ [x] := ⟨d.dropLast, d.getLast hne, (List.dropLast_concat_getLast hne).symm⟩
    obtain ⟨hd', hx⟩ := hd.snoc_iff
    have hl' : d'.length = n + 1 := by simpa using hl
    have h0' : d'.getD 0 0 ≠ 48 := by
      rwa [List.getD_eq_getElem?_getD, List.getElem?_append_left (by omega), ← List.getD_eq_getElem?_getD] at h0
    obtain ⟨ih1, ih2⟩ := ih d' hl' hd' h0'
    simp only [isD, decide_eq_true_eq] at hx
    rw [dval_snoc]
    refine ⟨by omega, ?_⟩
    rw [decN_big (by omega)]
    have e1 : (10 * dval d' + (x - 48)) / 10 = dval d' := by omega
    have e2 : 48 + (10 * dval d' + (x - 48)) % 10 = x := by omega
    rw [e1, e2, ih2]

/-- What is read is written as it stood. -/
theorem txt_pz (l : List Nat) (h : pcode l = 0) : txt (pz l) = l := by
  unfold pcode at h
  by_cases hc : (scanN l).2 = true ∧ ¬ (scanN l).1 < l.length
  · rw [if_pos hc] at h
    have hlong : ¬ 1000 < l.length - sgl l := by
      intro hl
      rw [if_pos hl] at h
      omega
    have hpz : pz l = sgn (decide (0 < sgl l)) (dval (l.drop (sgl l))) := by unfold pz; rw [if_pos ⟨hc.1, hc.2, hlong⟩]
    have hall := allD_of_scan l hc.1 hc.2
    obtain ⟨h1, h2⟩ := hc
    unfold scanN at h1 h2
    by_cases h48 : 0 < l.length ∧ l.getD 0 0 = 48
    · rw [if_pos h48] at h2
      have hl : l.length = 1 := by have := h48.1; simp at h2; omega
      obtain ⟨x, rfl⟩ := List.length_eq_one_iff.1 hl
      have hx : x = 48 := by simpa using h48.2
      subst hx
      rw [hpz]
      decide +kernel
    · rw [if_neg h48] at h1
      have hpos : 0 < spos (l.drop (sgl l)) := by simpa using h1
      unfold spos at hpos
      by_cases hcc : (l.drop (sgl l)).length = 0 ∨ (l.drop (sgl l)).getD 0 0 = 48
      · rw [if_pos hcc] at hpos
        omega
      · have hn0 : (l.drop (sgl l)).length ≠ 0 := fun e => hcc (Or.inl e)
        obtain ⟨k, hk⟩ : ∃ k, (l.drop (sgl l)).length = k + 1 := ⟨(l.drop (sgl l)).length - 1, by omega⟩
        obtain ⟨g1, g2⟩ := decN_back k _ hk hall (fun e => hcc (Or.inr e))
        rw [hpz]
        by_cases h45 : l.getD 0 0 = 45
        · have hs : sgl l = 1 := by unfold sgl; rw [if_pos h45]
          rw [hs] at g1 g2 ⊢
          have hz : sgn (decide (0 < 1)) (dval (l.drop 1)) = -(dval (l.drop 1) : Int) := rfl
          rw [hz, txt_neg (by omega), Int.natAbs_neg, Int.natAbs_natCast, g2]
          cases l with
          | nil => simp at h45
          | cons y r =>
            simp at h45
            rw [h45]; rfl
        · have hs : sgl l = 0 := by unfold sgl; rw [if_neg h45]
          rw [hs] at g1 g2 ⊢
          have hz : sgn (decide (0 < 0)) (dval (l.drop 0)) = (dval (l.drop 0) : Int) := rfl
          rw [hz, txt_pos (by omega), Int.natAbs_natCast, g2]
          rfl
  · rw [if_neg hc] at h
    omega

theorem itoa_back (s : ByteArray) (h : pcode (bs s) = 0) : (⟨(Lib.itoa (pz (bs s))).toArray⟩ : ByteArray) = s := by
  have h1 := txt_pz (bs s) h
  unfold txt bs at h1
  have h2 : Lib.itoa (pz (bs s)) = s.data.toList := by
    unfold bs
    exact (List.map_inj_right (fun _ _ e => UInt8.toNat_inj.1 e)).1 h1
  rw [h2]

theorem tw_ex : ∀ (n v : Nat), v ≤ n → 0 < v → ∃ t, Tw v t := by
  intro n
  induction n with
  | zero => intro v h1 h2; omega
  | succ n ih =>
    intro v h1 h2
    by_cases ho : v % 2 = 1
    · exact ⟨0, v / 2, by omega⟩
    · obtain ⟨t, m, hm⟩ := ih (v / 2) (by omega) (by omega)
      exact ⟨t + 1, m, by rw [Nat.pow_succ, Nat.mul_comm (2 ^ t) 2, Nat.mul_assoc, ← hm]; omega⟩

/-- How many twos, told of every number. -/
theorem twos_ex (z : Int) : ∃ T : Nat, (z ≠ 0 → Tw z.natAbs T) ∧ (z = 0 → T = 0) := by
  by_cases h : z = 0
  · exact ⟨0, fun e => absurd h e, fun _ => rfl⟩
  · obtain ⟨t, ht⟩ := tw_ex z.natAbs z.natAbs (Nat.le_refl _) (by omega)
    exact ⟨t, fun _ => ht, fun e => absurd e h⟩
theorem twos_one {z : Int} {T t : Nat} (hT : (z ≠ 0 → Tw z.natAbs T) ∧ (z = 0 → T = 0)) (h1 : z ≠ 0 → Tw z.natAbs t) (h2 : z = 0 → t = 0) : t = T := by
  by_cases h : z = 0
  · rw [h2 h, hT.2 h]
  · exact (h1 h).one (hT.1 h)

set_option maxHeartbeats 1000000 in
set_option maxRecDepth 100000 in
theorem ZSign_any (neg : Bool) (ao : Option Addr) (n c : Nat) (z : Int) (w : World) (h : IsZ w neg ao n c z) (k : Int) (hk : cmp3 z 0 = k) :
    Calls Tryd.prog 17 #[.agg #[.bool neg, .slice ao n c]] w fun e w' => e = .returned (.int .i64 k) ∧ Ext w w' := by
  have hE := ext_alloc w (.cells #[.bool neg, .slice ao n c] 31)
  have Hz := Lib.hid (zsign_any neg ao n c z _ (h.ext hE) k (by rw [← hk]; unfold cmp3; rfl))
  clear h hk
  go_enter Tryd.func17, Tryd.ntmps17
  go_wp2_with fail
  refine Hz.out.mono ?_
  rintro e w1 ⟨rfl, hx1⟩
  go_wp2_with fail
  go_ret
  exact ⟨rfl, hE.trans hx1⟩

theorem Small_is (sm : Int) (ao : Option Addr) (n c : Nat) (z : Int) (w : World) (h : IsInt w sm ao n c z) :
    Calls Tryd.prog 10 #[.agg #[.int .i64 sm, .slice ao n c]] w fun e w' => e = .returned (.tuple #[.int .i64 (smN z), .bool (smB z)]) ∧ Ext w w' := Small_any sm ao n c z w h

theorem ZTwos_is (neg : Bool) (ao : Option Addr) (n c : Nat) (z : Int) (w : World) (h : IsZ w neg ao n c z) (hn : n ≤ 400000) (T : Nat) (hT : (z ≠ 0 → Tw z.natAbs T) ∧ (z = 0 → T = 0)) :
    Calls Tryd.prog 21 #[.agg #[.bool neg, .slice ao n c]] w fun e w' => e = .returned (.int .i64 T) ∧ Ext w w' :=
  (ZTwos_any neg ao n c z w h hn).mono fun _ _ ⟨t, h1, h2, h3, h4⟩ => ⟨by rw [h1, twos_one hT h2 h3], h4⟩

end Go.Proofs.YtgnhknejfjholaaDoor
