/-
  The reference's numbers: ZTwos.
-/
import Derived.Test.YtdiojbgbeeojkaaGreatDoorMZO
import Derived.Test.YtdiojbgbeeojkaaGreatDoorMBase
import Derived.Test.YtdiojbgbeeojkaaGreatDoorMTxP
import Derived.Test.YtdiojbgbeeojkaaGreatDoorMIntC

namespace Go.Proofs.YtdiojbgbeeojkaaGreatDoor
open Go.RowKit

theorem ZBx.own {W : World} {g : Nat} {b : Bool} {a : Option Addr} {n c : Nat} (h : ZBx W g b a n c) (b' : Bool) (a' : Option Addr) (n' c' : Nat) : ZBx ((W.setCell ⟨g, 0, none⟩ (.bool b')).setCell ⟨g, 1, none⟩ (.slice a' n' c')) g b' a' n' c' := by
  have h1 := heap_setCell_same W g 0 _ _ (.bool b') h.row
  have h2 := heap_setCell_same _ g 1 _ _ (.slice a' n' c') h1
  exact ⟨by rw [h2]; rfl⟩
theorem ZBx.f {W : World} {g : Nat} {b : Bool} {a : Option Addr} {n c : Nat} (h : ZBx W g b a n c) (o : Nat) : W.frozen? ⟨g, o, none⟩ = false := frozen_of_row W g o _ _ h.row

theorem zt_few {t v V n : Nat} (h : V = 2 ^ t * v) (hv : 0 < v) (hV : V < 10000 ^ n) : t < 14 * n := by
  apply Nat.lt_of_not_le
  intro hk
  have h1 : (2 : Nat) ^ (14 * n) ≤ 2 ^ t := Nat.pow_le_pow_right (by decide) hk
  have h2 : (10000 : Nat) ^ n ≤ 2 ^ (14 * n) := by
    rw [Nat.pow_mul]
    exact Nat.pow_le_pow_left (by decide) n
  have h3 : 2 ^ t ≤ 2 ^ t * v := Nat.le_mul_of_pos_right _ hv
  omega

theorem IsZ.zero_iff {w : World} {neg : Bool} {ao : Option Addr} {n c : Nat} {z : Int} (h : IsZ w neg ao n c z) : (n = 0 ↔ z.natAbs = 0) ∧ z.natAbs < 10000 ^ n := by
  obtain ⟨l, p1, p2, p3, p4, p5, p6, p7, p8, p9⟩ := h.abs
  refine ⟨⟨fun h0 => ?_, fun h0 => ?_⟩, ?_⟩
  · have e : l = [] := List.eq_nil_of_length_eq_zero (by omega)
    rw [p7, e]; rfl
  · rw [p7] at h0
    have := (zval_zero p6).1 h0
    rw [← p1, this]; rfl
  · rw [p7, ← p1]; exact zval_lt p5

/-- There is one number of twos alone. -/
theorem Tw.one {v t t' : Nat} (h : Tw v t) (h' : Tw v t') : t = t' := by
  have h1 := (h.dvd t').1 ((h'.dvd t').2 (Nat.le_refl _))
  have h2 := (h'.dvd t).1 ((h.dvd t).2 (Nat.le_refl _))
  omega

end Go.Proofs.YtdiojbgbeeojkaaGreatDoor

/-
  What is read is written as it stood; ZSign; the number of twos.
-/
namespace Go.Proofs.YtdiojbgbeeojkaaGreatDoor
open Go.RowKit

theorem AllD.snoc_iff {d : List Nat} {x : Nat} (h : AllD (d ++ [x])) : AllD d ∧ isD x = true := by
  refine ⟨fun t ht => ?_, ?_⟩
  · have := h t (by rw [List.length_append]; omega)
    rwa [List.getD_eq_getElem?_getD, List.getElem?_append_left ht, ← List.getD_eq_getElem?_getD] at this
  · have := h d.length (by simp)
    rwa [List.getD_eq_getElem?_getD, List.getElem?_append_right (Nat.le_refl _), Nat.sub_self] at this

/-- Digits without a nought ahead are what is written of their number. -/
theorem decN_back : ∀ (n : Nat) (d : List Nat), d.length = n + 1 → AllD d → d.getD 0 0 ≠ 48 → 0 < dval d ∧ decN (dval d) = d := by
  intro n
  induction n with
  | zero =>
    intro d hl hd h0
    obtain ⟨x, rfl⟩ := List.length_eq_one_iff.1 hl
    have hx := hd 0 (by simp)
    simp only [List.getD_cons_zero, isD, decide_eq_true_eq] at hx h0
    have hv : dval [x] = x - 48 := by simp [dval]
    rw [hv]
    refine ⟨by omega, ?_⟩
    rw [decN_small (by omega)]
    congr 1
    omega
  | succ n ih =>
    intro d hl hd h0
    have hne : d ≠ [] := by intro e; subst e; simp at hl
    obtain ⟨d', x, rfl⟩ : ∃ d' x, d = d' ++ [x] := ⟨d.dropLast, d.getLast hne, (List.dropLast_concat_getLast hne).symm⟩
    obtain ⟨hd', hx⟩ := hd.snoc_iff
    have hl' : d'.length = n + 1 := by simpa using hl
    have h0' : d'.getD 0 0 ≠ 48 := by
      rwa [List.getD_eq_getElem?_getD, List.getElem?_append_left (by omega), ← List.getD_eq_getElem?_getD] at h0
    obtain ⟨ih1, ih2⟩ := ih d' hl' hd' h0'
    simp only [isD, decide_eq_true_eq] at hx
    rw [dval_snoc]
    refine ⟨by omega, ?_⟩
    rw [decN_big (by omega)]
    have e1 : (10 * dval d' + (x - 48)) / 10 = dval d' := by omega
    have e2 : 48 + (10 * dval d' + (x - 48)) % 10 = x := by omega
    rw [e1, e2, ih2]

/-- What is read is written as it stood. -/
theorem txt_pz (l : List Nat) (h : pcode l = 0) : txt (pz l) = l := by
  unfold pcode at h
  by_cases hc : (scanN l).2 = true ∧ ¬ (scanN l).1 < l.length
  · rw [if_pos hc] at h
    have hlong : ¬ 1000 < l.length - sgl l := by
      intro hl
      rw [if_pos hl] at h
      omega
    have hpz : pz l = sgn (decide (0 < sgl l)) (dval (l.drop (sgl l))) := by unfold pz; rw [if_pos ⟨hc.1, hc.2, hlong⟩]
    have hall := allD_of_scan l hc.1 hc.2
    obtain ⟨h1, h2⟩ := hc
    unfold scanN at h1 h2
    by_cases h48 : 0 < l.length ∧ l.getD 0 0 = 48
    · rw [if_pos h48] at h2
      have hl : l.length = 1 := by have := h48.1; simp at h2; omega
      obtain ⟨x, rfl⟩ := List.length_eq_one_iff.1 hl
      have hx : x = 48 := by simpa using h48.2
      subst hx
      rw [hpz]
      decide +kernel
    · rw [if_neg h48] at h1
      have hpos : 0 < spos (l.drop (sgl l)) := by simpa using h1
      unfold spos at hpos
      by_cases hcc : (l.drop (sgl l)).length = 0 ∨ (l.drop (sgl l)).getD 0 0 = 48
      · rw [if_pos hcc] at hpos
        omega
      · have hn0 : (l.drop (sgl l)).length ≠ 0 := fun e => hcc (Or.inl e)
        obtain ⟨k, hk⟩ : ∃ k, (l.drop (sgl l)).length = k + 1 := ⟨(l.drop (sgl l)).length - 1, by omega⟩
        obtain ⟨g1, g2⟩ := decN_back k _ hk hall (fun e => hcc (Or.inr e))
        rw [hpz]
        by_cases h45 : l.getD 0 0 = 45
        · have hs : sgl l = 1 := by unfold sgl; rw [if_pos h45]
          rw [hs] at g1 g2 ⊢
          have hz : sgn (decide (0 < 1)) (dval (l.drop 1)) = -(dval (l.drop 1) : Int) := rfl
          rw [hz, txt_neg (by omega), Int.natAbs_neg, Int.natAbs_natCast, g2]
          cases l with
          | nil => simp at h45
          | cons y r =>
            simp at h45
            rw [h45]; rfl
        · have hs : sgl l = 0 := by unfold sgl; rw [if_neg h45]
          rw [hs] at g1 g2 ⊢
          have hz : sgn (decide (0 < 0)) (dval (l.drop 0)) = (dval (l.drop 0) : Int) := rfl
          rw [hz, txt_pos (by omega), Int.natAbs_natCast, g2]
          rfl
  · rw [if_neg hc] at h
    omega

theorem itoa_back (s : ByteArray) (h : pcode (bs s) = 0) : (⟨(Lib.itoa (pz (bs s))).toArray⟩ : ByteArray) = s := by
  have h1 := txt_pz (bs s) h
  unfold txt bs at h1
  have h2 : Lib.itoa (pz (bs s)) = s.data.toList := by
    unfold bs
    exact (List.map_inj_right (fun _ _ e => UInt8.toNat_inj.1 e)).1 h1
  rw [h2]

theorem tw_ex : ∀ (n v : Nat), v ≤ n → 0 < v → ∃ t, Tw v t := by
  intro n
  induction n with
  | zero => intro v h1 h2; omega
  | succ n ih =>
    intro v h1 h2
    by_cases ho : v % 2 = 1
    · exact ⟨0, v / 2, by omega⟩
    · obtain ⟨t, m, hm⟩ := ih (v / 2) (by omega) (by omega)
      exact ⟨t + 1, m, by rw [Nat.pow_succ, Nat.mul_comm (2 ^ t) 2, Nat.mul_assoc, ← hm]; omega⟩

/-- How many twos, told of every number. -/
theorem twos_ex (z : Int) : ∃ T : Nat, (z ≠ 0 → Tw z.natAbs T) ∧ (z = 0 → T = 0) := by
  by_cases h : z = 0
  · exact ⟨0, fun e => absurd h e, fun _ => rfl⟩
  · obtain ⟨t, ht⟩ := tw_ex z.natAbs z.natAbs (Nat.le_refl _) (by omega)
    exact ⟨t, fun _ => ht, fun e => absurd e h⟩
theorem twos_one {z : Int} {T t : Nat} (hT : (z ≠ 0 → Tw z.natAbs T) ∧ (z = 0 → T = 0)) (h1 : z ≠ 0 → Tw z.natAbs t) (h2 : z = 0 → t = 0) : t = T := by
  by_cases h : z = 0
  · rw [h2 h, hT.2 h]
  · exact (h1 h).one (hT.1 h)

end Go.Proofs.YtdiojbgbeeojkaaGreatDoor
