/-
  Div64 at every dividend; divByWord: words divided by one word.
-/
import Derived.Test.YtfjbhiihfibbaaaDoorMDiv64

namespace Go.Proofs.YtfjbhiihfibbaaaDoor
open Go.RowKit

theorem drop_set_cons (M : List Nat) (j q : Nat) (h : j < M.length) : (M.set j q).drop j = q :: M.drop (j + 1) := by
  rw [List.drop_eq_getElem_cons (by rw [List.length_set]; exact h), List.getElem_set_self, List.drop_set]
  rw [if_pos (by omega)]

theorem drop_cons (l : List Nat) (j : Nat) (h : j < l.length) : l.drop j = l.getD j 0 :: l.drop (j + 1) := by
  rw [List.drop_eq_getElem_cons h, List.getD_eq_getElem?_getD, List.getElem?_eq_getElem h]
  rfl

theorem divWord_step {M la : List Nat} {j y q r rest x : Nat} (hM : j < M.length) (hl : j < la.length) (hx : la.getD j 0 = x) (hinv : val (M.drop (j + 1)) * y + rest = val (la.drop (j + 1))) (hd : rest * B64 + x = q * y + r) :
    val ((M.set j q).drop j) * y + r = val (la.drop j) := by
  rw [drop_set_cons M j q hM, drop_cons la j hl, hx, val, val, ← hinv, Nat.add_mul, Nat.mul_add, Nat.mul_assoc, Nat.mul_comm B64 rest]
  omega

end Go.Proofs.YtfjbhiihfibbaaaDoor

/-
  guessDigit: three words by two.
-/
namespace Go.Proofs.YtfjbhiihfibbaaaDoor
open Go.RowKit

/-- What guessDigit answers. -/
def gd (high mid low b1 b2 : Nat) : Nat := if b1 ≤ high then 18446744073709551615 else ((high * B64 + mid) * B64 + low) / (b1 * B64 + b2)

theorem lex_cmp {over under rest low m : Nat} (h : under + B64 * over = m) (hu : under < B64) (hl : low < B64) : (m ≤ B64 * rest + low) ↔ (over < rest ∨ (over = rest ∧ under ≤ low)) := by
  subst h
  constructor
  · intro h
    rcases Nat.lt_trichotomy over rest with h1 | h1 | h1
    · exact Or.inl h1
    · subst h1; exact Or.inr ⟨rfl, by omega⟩
    · have : B64 * (rest + 1) ≤ B64 * over := Nat.mul_le_mul_left _ h1
      rw [Nat.mul_add] at this
      omega
  · rintro (h1 | ⟨rfl, h1⟩)
    · have : B64 * (over + 1) ≤ B64 * rest := Nat.mul_le_mul_left _ h1
      rw [Nat.mul_add] at this
      omega
    · omega

theorem guess_break64 {u u1 v1 v0 q r : Nat} (g : Guess B64 u u1 v1 v0 (q - 1) (r + v1)) (hv1 : 0 < v1) (hv0 : v0 < B64) (hq : q ≤ B64) (hr : B64 ≤ r + v1) : q - 1 = (u * B64 + u1) / (v1 * B64 + v0) := by
  refine g.done (Nat.add_pos_left (Nat.mul_pos hv1 B64_pos) _) ?_
  have h1 : (q - 1) * v0 ≤ B64 * B64 := Nat.mul_le_mul (by omega) (by omega)
  have h2 : B64 * B64 ≤ B64 * (r + v1) := Nat.mul_le_mul_left _ hr
  omega

end Go.Proofs.YtfjbhiihfibbaaaDoor

/-
  A digit of a long quotient: the guess by the highest words is right or too great by one; what is left in either case. Plain numbers.
-/
namespace Go.Proofs.YtfjbhiihfibbaaaDoor
open Go.RowKit

theorem knuth {high mid low b1 b2 W t b' P b : Nat} (hW : 0 < W) (ht : t < W) (hb' : b' < W) (h2 : mid < B64) (h3 : low < B64) (hb2 : b2 < B64) (hb1 : 9223372036854775808 ≤ b1)
    (hP : P = ((high * B64 + mid) * B64 + low) * W + t) (hb : b = (b1 * B64 + b2) * W + b') (hlt : P < B64 * b) :
    P / b ≤ gd high mid low b1 b2 ∧ gd high mid low b1 b2 ≤ P / b + 1 ∧ gd high mid low b1 b2 < B64 := by
  obtain ⟨T, hT⟩ : ∃ T, T = (high * B64 + mid) * B64 + low := ⟨_, rfl⟩
  obtain ⟨V, hV⟩ : ∃ V, V = b1 * B64 + b2 := ⟨_, rfl⟩
  rw [← hT] at hP
  rw [← hV] at hb
  have hV0 : 0 < V := by
    have : 0 < b1 * B64 := Nat.mul_pos (by omega) B64_pos
    omega
  have hb0 : 0 < b := by
    have : 0 < V * W := Nat.mul_pos hV0 hW
    omega
  have hq1 : P / b < B64 := by rw [Nat.div_lt_iff_lt_mul hb0]; exact hlt
  have hq2 : P / b ≤ T / V := by
    rw [Nat.le_div_iff_mul_le hV0]
    have h4 := Nat.div_mul_le_self P b
    have h5 : P / b * (V * W) ≤ P / b * b := Nat.mul_le_mul_left _ (by omega)
    rw [← Nat.mul_assoc] at h5
    have h6 : P / b * V * W < (T + 1) * W := by rw [Nat.add_mul]; omega
    exact Nat.le_of_lt_succ (Nat.lt_of_mul_lt_mul_right h6)
  have hTP : T * W ≤ P := by omega
  have hbW : b ≤ (V + 1) * W := by rw [Nat.add_mul]; omega
  unfold gd
  by_cases hge : b1 ≤ high
  · rw [if_pos hge]
    refine ⟨by rw [B64_eq] at hq1; omega, ?_, by rw [B64_eq]; omega⟩
    have hk : 18446744073709551614 ≤ P / b := by
      rw [Nat.le_div_iff_mul_le hb0]
      have h4 : V + 1 ≤ (b1 + 1) * B64 := by rw [hV, Nat.add_mul]; omega
      have h5 : 18446744073709551614 * b ≤ 18446744073709551614 * ((b1 + 1) * B64 * W) := Nat.mul_le_mul_left _ (Nat.le_trans hbW (Nat.mul_le_mul_right _ h4))
      have h6 : 18446744073709551614 * (b1 + 1) ≤ b1 * B64 := by rw [B64_eq]; omega
      have h7 : 18446744073709551614 * ((b1 + 1) * B64 * W) = 18446744073709551614 * (b1 + 1) * (B64 * W) := by
        generalize B64 = x
        simp only [Nat.mul_assoc]
      have h8 : b1 * B64 * (B64 * W) ≤ T * W := by
        have h9 : b1 * B64 ≤ high * B64 + mid := Nat.le_trans (Nat.mul_le_mul_right _ hge) (Nat.le_add_right _ _)
        have h10 : b1 * B64 * B64 ≤ T := by rw [hT]; exact Nat.le_trans (Nat.mul_le_mul_right _ h9) (Nat.le_add_right _ _)
        rw [← Nat.mul_assoc]
        exact Nat.mul_le_mul_right _ h10
      have h11 : 18446744073709551614 * (b1 + 1) * (B64 * W) ≤ b1 * B64 * (B64 * W) := Nat.mul_le_mul_right _ h6
      rw [h7] at h5
      exact Nat.le_trans h5 (Nat.le_trans h11 (Nat.le_trans h8 hTP))
    omega
  · rw [if_neg hge, ← hT, ← hV]
    have hTV : T / V < B64 := by
      rw [Nat.div_lt_iff_lt_mul hV0]
      have h4 : (high * B64 + mid) + 1 ≤ b1 * B64 := by
        have := Nat.mul_le_mul_right B64 (show high + 1 ≤ b1 by omega)
        rw [Nat.add_mul] at this
        omega
      have h5 := Nat.mul_le_mul_right B64 h4
      rw [Nat.add_mul] at h5
      have h6 : b1 * B64 * B64 ≤ B64 * V := by rw [hV, Nat.mul_comm B64]; exact Nat.mul_le_mul_right _ (Nat.le_add_right _ _)
      omega
    refine ⟨hq2, ?_, hTV⟩
    have h7 := Nat.div_mul_le_self T V
    generalize T / V = g at *
    have h4 : g - 1 ≤ P / b := by
      rw [Nat.le_div_iff_mul_le hb0]
      have h5 : (g - 1) * b ≤ (g - 1) * ((V + 1) * W) := Nat.mul_le_mul_left _ hbW
      have h6 : (g - 1) * (V + 1) ≤ T := by
        cases g with
        | zero => simp
        | succ k =>
          rw [Nat.add_sub_cancel, Nat.mul_add]
          rw [Nat.add_mul, Nat.one_mul] at h7
          have h8 : B64 ≤ V := by
            rw [hV]
            have := Nat.mul_le_mul_right B64 (show 1 ≤ b1 by omega)
            omega
          omega
      rw [← Nat.mul_assoc] at h5
      exact Nat.le_trans h5 (Nat.le_trans (Nat.mul_le_mul_right _ h6) hTP)
    exact Nat.le_add_of_sub_le h4

/-- The guess is right. -/
theorem digit_right {P0 P0' pn over g b X : Nat} (hP0' : P0' < X) (hbX : b < X) (hb0 : 0 < b) (hg : g = (P0 + X * pn) / b) (hv : P0' + b * g = P0 + X * over) : over = pn ∧ P0' = (P0 + X * pn) % b := by
  have h1 := Nat.div_add_mod (P0 + X * pn) b
  have h2 := Nat.mod_lt (P0 + X * pn) hb0
  rw [← hg] at h1
  generalize (P0 + X * pn) % b = r at *
  generalize b * g = bg at *
  rcases Nat.lt_trichotomy over pn with h | h | h
  · have := Nat.mul_le_mul_left X (show over + 1 ≤ pn from h)
    rw [Nat.mul_add] at this
    omega
  · subst h; exact ⟨rfl, by omega⟩
  · have := Nat.mul_le_mul_left X (show pn + 1 ≤ over from h)
    rw [Nat.mul_add] at this
    omega

/-- The guess is too great by one. -/
theorem digit_off {P0 P0' pn over g b X : Nat} (hP0' : P0' < X) (hbX : b < X) (hb0 : 0 < b) (hg : g = (P0 + X * pn) / b + 1) (hv : P0' + b * g = P0 + X * over) : over = pn + 1 ∧ P0' + b = (P0 + X * pn) % b + X := by
  have h1 := Nat.div_add_mod (P0 + X * pn) b
  have h2 := Nat.mod_lt (P0 + X * pn) hb0
  rw [hg, Nat.mul_add, Nat.mul_one] at hv
  generalize (P0 + X * pn) % b = r at *
  generalize b * ((P0 + X * pn) / b) = bg at *
  rcases Nat.lt_trichotomy over (pn + 1) with h | h | h
  · have := Nat.mul_le_mul_left X (show over ≤ pn by omega)
    omega
  · subst h
    rw [Nat.mul_add] at hv
    exact ⟨rfl, by omega⟩
  · have := Nat.mul_le_mul_left X (show pn + 2 ≤ over from h)
    rw [Nat.mul_add] at this
    omega

/-- The three highest words of n + 1. -/
theorem top3 (l : List Nat) (n : Nat) (hn : 2 ≤ n) (hl : l.length = n + 1) : val l = ((l.getD n 0 * B64 + l.getD (n - 1) 0) * B64 + l.getD (n - 2) 0) * B64 ^ (n - 2) + val (l.take (n - 2)) := by
  obtain ⟨m, rfl⟩ : ∃ m, n = m + 2 := ⟨n - 2, by omega⟩
  have e0 : l.take (m + 2 + 1) = l := List.take_of_length_le (by omega)
  have e1 := val_take_succ l (m + 2) (by omega)
  have e2 := val_take_succ l (m + 1) (by omega)
  have e3 := val_take_succ l m (by omega)
  have q1 : B64 ^ (m + 1) = B64 ^ m * B64 := Nat.pow_succ _ _
  have q2 : B64 ^ (m + 2) = B64 ^ m * B64 * B64 := by rw [Nat.pow_succ, q1]
  rw [e0, e2, e3, q1, q2] at e1
  rw [e1, show m + 2 - 1 = m + 1 from rfl, show m + 2 - 2 = m from rfl]
  generalize val (l.take m) = a
  generalize l.getD m 0 = x
  generalize l.getD (m + 1) 0 = y
  generalize l.getD (m + 2) 0 = z
  generalize B64 ^ m = X
  generalize B64 = c
  simp only [Nat.add_mul, Nat.mul_assoc]
  have p1 : X * (c * y) = y * (c * X) := by ac_rfl
  have p2 : X * (c * (c * z)) = z * (c * (c * X)) := by ac_rfl
  have p3 : X * x = x * X := Nat.mul_comm _ _
  omega

/-- The two highest words of n. -/
theorem top2 (l : List Nat) (n : Nat) (hn : 2 ≤ n) (hl : l.length = n) : val l = (l.getD (n - 1) 0 * B64 + l.getD (n - 2) 0) * B64 ^ (n - 2) + val (l.take (n - 2)) := by
  obtain ⟨m, rfl⟩ : ∃ m, n = m + 2 := ⟨n - 2, by omega⟩
  have e0 : l.take (m + 1 + 1) = l := List.take_of_length_le (by omega)
  have e2 := val_take_succ l (m + 1) (by omega)
  have e3 := val_take_succ l m (by omega)
  rw [e0, e3, Nat.pow_succ] at e2
  rw [e2, show m + 2 - 1 = m + 1 from rfl, show m + 2 - 2 = m from rfl]
  generalize val (l.take m) = a
  generalize l.getD m 0 = x
  generalize l.getD (m + 1) 0 = y
  generalize B64 ^ m = X
  generalize B64 = c
  simp only [Nat.add_mul, Nat.mul_assoc]
  have p1 : X * (c * y) = y * (c * X) := by ac_rfl
  have p3 : X * x = x * X := Nat.mul_comm _ _
  omega

/-- The guess at a part of a row. -/
theorem knuth_seg {l lb : List Nat} {n : Nat} (hn : 2 ≤ n) (hl : l.length = n + 1) (hlb : lb.length = n) (dl : Dig l) (db : Dig lb) (htop : 9223372036854775808 ≤ lb.getD (n - 1) 0) (hlt : val l < B64 * val lb) :
    val l / val lb ≤ gd (l.getD n 0) (l.getD (n - 1) 0) (l.getD (n - 2) 0) (lb.getD (n - 1) 0) (lb.getD (n - 2) 0) ∧
    gd (l.getD n 0) (l.getD (n - 1) 0) (l.getD (n - 2) 0) (lb.getD (n - 1) 0) (lb.getD (n - 2) 0) ≤ val l / val lb + 1 ∧
    gd (l.getD n 0) (l.getD (n - 1) 0) (l.getD (n - 2) 0) (lb.getD (n - 1) 0) (lb.getD (n - 2) 0) < B64 := by
  have h1 := val_lt (dl.take (n - 2))
  have h2 := val_lt (db.take (n - 2))
  rw [List.length_take, Nat.min_eq_left (by omega)] at h1 h2
  exact knuth (Nat.pow_pos B64_pos) h1 h2 (dl.getD _) (dl.getD _) (db.getD _) htop (top3 l n hn hl) (top2 lb n hn hlb) hlt

end Go.Proofs.YtfjbhiihfibbaaaDoor
