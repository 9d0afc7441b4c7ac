/-
  The reference's reading: word, digitsOf.
-/
import Derived.Test.YtdiojbgbeeojkaaGreatDoorMParA
import Derived.Test.YtdiojbgbeeojkaaGreatDoorMZA
import Derived.Test.YtdiojbgbeeojkaaGreatDoorMTxP

namespace Go.Proofs.YtdiojbgbeeojkaaGreatDoor
open Go.RowKit

theorem dcount_drop (l : List Nat) (g k : Nat) (h1 : g ≤ k) (h2 : k ≤ l.length) (h : ∀ t, g ≤ t → t < k → isD (l.getD t 0) = true) (h3 : k = l.length ∨ isD (l.getD k 0) = false) : dcount (l.drop g) = k - g := by
  refine dcount_of (l.drop g) (k - g) (by rw [List.length_drop]; omega) (fun t ht => ?_) ?_
  · rw [drop_getD]; exact h (g + t) (by omega) (by omega)
  · rcases h3 with h3 | h3
    · left; rw [List.length_drop, h3]
    · right; rw [drop_getD, show g + (k - g) = k by omega]; exact h3

theorem scan_sign_nought (l : List Nat) (h : l.getD 0 0 = 45) (h0 : l.getD 1 0 = 48) : scanN l = (1, false) := by
  unfold scanN
  have hs : sgl l = 1 := by unfold sgl; rw [if_pos h]
  rw [if_neg (by rw [h]; simp), hs]
  have : spos (l.drop 1) = 0 := by
    unfold spos
    rw [if_pos (Or.inr (by rw [drop_getD]; exact h0))]
  rw [this]; rfl

theorem scan_digits (l : List Nat) (k : Nat) (hg : sgl l ≤ k) (hk : k ≤ l.length) (h0 : ¬ (sgl l < l.length ∧ l.getD (sgl l) 0 = 48)) (h : ∀ t, sgl l ≤ t → t < k → isD (l.getD t 0) = true) (h3 : k = l.length ∨ isD (l.getD k 0) = false) : scanN l = (k, decide (sgl l < k)) := by
  have hne : ¬ (0 < l.length ∧ l.getD 0 0 = 48) := by
    rintro ⟨q1, q2⟩
    apply h0
    have : sgl l = 0 := by unfold sgl; rw [if_neg (by omega)]
    rw [this]; exact ⟨q1, q2⟩
  unfold scanN
  rw [if_neg hne]
  have hsp : spos (l.drop (sgl l)) = k - sgl l := by
    unfold spos
    by_cases hc : (l.drop (sgl l)).length = 0 ∨ (l.drop (sgl l)).getD 0 0 = 48
    · rw [if_pos hc]
      rcases hc with hc | hc
      · rw [List.length_drop] at hc; omega
      · rw [drop_getD, Nat.add_zero] at hc
        have hlen : ¬ sgl l < l.length := fun q => h0 ⟨q, hc⟩
        omega
    · rw [if_neg hc]; exact dcount_drop l (sgl l) k hg hk h h3
  rw [hsp]
  have e1 : sgl l + (k - sgl l) = k := by omega
  rw [e1]
  congr 1
  rw [decide_eq_decide]
  omega

theorem scan_nought (l : List Nat) (h1 : 0 < l.length) (h : l.getD 0 0 = 48) : scanN l = (1, true) := by unfold scanN; rw [if_pos ⟨h1, h⟩]

set_option maxHeartbeats 1000000 in
set_option maxRecDepth 100000 in
theorem digitsOf_any (s : ByteArray) (w : World) (hs : s.size ≤ 9223372036854775807) :
    Calls Tryz.prog 38 #[.string s] w fun e w' => e = .returned (.int .i64 ((s.size - sgl (bs s) : Nat))) ∧ w = w' := by
  by_cases h0 : s.size = 0
  · have e := bs_nil s h0
    subst e
    go_enter Tryz.func38, Tryz.ntmps38
    go_wp2
    go_ret
    exact ⟨rfl, rfl⟩
  · have hp : 0 < s.size := by omega
    have hat := bs_at s 0 hp
    have ip : (0 : Int) < (s.size : Int) := by omega
    by_cases h45 : (bs s).getD 0 0 = 45
    · have hb : ((s[0].toNat : Int) == 45) = true := by rw [beq_iff_eq, hat]; omega
      have Hg : Hid (sgl (bs s) = 1) := by show _ = _; unfold sgl; rw [if_pos h45]
      clear hat h45 h0
      go_enter Tryz.func38, Tryz.ntmps38
      go_wp2
      go_ret
      have e : ((s.size - 1 : Nat) : Int) = (s.size : Int) - 1 := by omega
      exact ⟨by rw [Hg.out, e]; rfl, rfl⟩
    · have hb : ((s[0].toNat : Int) == 45) = false := by rw [beq_eq_false_iff_ne, hat]; omega
      have Hg : Hid (sgl (bs s) = 0) := by show _ = _; unfold sgl; rw [if_neg h45]
      clear hat h45 h0
      go_enter Tryz.func38, Tryz.ntmps38
      go_wp2
      go_ret
      exact ⟨by rw [Hg.out]; rfl, rfl⟩

set_option maxHeartbeats 1000000 in
set_option maxRecDepth 100000 in
theorem word_any (s : ByteArray) (w : World) (hs : s.size ≤ 9223372036854775807) :
    Calls Tryz.prog 37 #[.string s, .bool true, .bool true] w fun e w' => e = .returned (.tuple #[.int .i64 ((scanN (bs s)).1 : Nat), .bool (scanN (bs s)).2]) ∧ w = w' := by
  by_cases h0 : s.size = 0
  · have e := bs_nil s h0
    subst e
    have hsc : scanN (bs ⟨#[]⟩) = (0, false) := by decide
    rw [hsc]
    clear hsc
    go_enter Tryz.func37, Tryz.ntmps37
    go_wp2
    go_loop [9] (fun i => i = .int .i64 0) (fun _ => 0)
    case atStart => rfl
    case round =>
      subst hrel
      go_wp2
      go_ret2
      exact ⟨rfl, rfl⟩
  · have hp : 0 < s.size := by omega
    have ip : (0 : Int) < (s.size : Int) := by omega
    have hat := bs_at s 0 hp
    have hlen := bs_length s
    by_cases h45 : (bs s).getD 0 0 = 45
    · have hb : ((s[0].toNat : Int) == 45) = true := by rw [beq_iff_eq, hat]; omega
      have hsg : sgl (bs s) = 1 := by unfold sgl; rw [if_pos h45]
      by_cases h48 : 1 < s.size ∧ (bs s).getD 1 0 = 48
      · obtain ⟨h1, h2⟩ := h48
        have i1 : (1 : Int) < (s.size : Int) := by omega
        have hb1 : ((s[1].toNat : Int) == 48) = true := by rw [beq_iff_eq, bs_at s 1 h1]; omega
        have hsc := scan_sign_nought _ h45 h2
        rw [hsc]
        clear hat h45 h2 hsc hsg hlen
        go_enter Tryz.func37, Tryz.ntmps37
        go_wp2
        go_ret2
        exact ⟨rfl, rfl⟩
      · have Hscan : Hid (∀ k, 1 ≤ k → k ≤ s.size → (∀ t, 1 ≤ t → t < k → isD ((bs s).getD t 0) = true) → (k = (bs s).length ∨ isD ((bs s).getD k 0) = false) → scanN (bs s) = (k, decide (1 < k))) := by
          intro k q1 q2 q3 q4
          have := scan_digits (bs s) k (by rw [hsg]; exact q1) (by rw [hlen]; exact q2) (by rw [hsg, hlen]; exact h48) (by rw [hsg]; exact q3) q4
          rwa [hsg] at this
        have hcase : (¬ (1 : Int) < (s.size : Int)) ∨ (∃ h1 : 1 < s.size, ((s[1].toNat : Int) == 48) = false) := by
          by_cases h1 : 1 < s.size
          · right; refine ⟨h1, ?_⟩
            rw [beq_eq_false_iff_ne, bs_at s 1 h1]
            intro hc; exact h48 ⟨h1, by omega⟩
          · left; omega
        clear hat h45 h48 hsg hlen
        rcases hcase with i1 | ⟨h1, hb1⟩
        · go_enter Tryz.func37, Tryz.ntmps37
          go_wp2
          go_loop [9] (fun i => ∃ k : Nat, 1 ≤ k ∧ k ≤ s.size ∧ i = .int .i64 k ∧ ∀ t, 1 ≤ t → t < k → isD ((bs s).getD t 0) = true) (fun i => s.size - (intOf i).toNat)
          case atStart => exact ⟨1, Nat.le_refl _, by omega, rfl, fun t h1 h2 => by omega⟩
          case round =>
            obtain ⟨k, hgk, hk, rfl, hall⟩ := hrel
            have Hall := Lib.hid hall
            clear hall
            by_cases hlt : k < s.size
            · have hat := bs_at s k hlt
              have ik : (k : Int) < (s.size : Int) := by omega
              by_cases hdg : isD ((bs s).getD k 0) = true
              · have hr : (48 : Int) ≤ (s[k].toNat : Int) ∧ (s[k].toNat : Int) ≤ 57 := by
                  simp only [isD, decide_eq_true_eq] at hdg; rw [hat]; omega
                obtain ⟨g1, g2⟩ := hr
                have Hdg := Lib.hid hdg
                clear hat hdg
                go_wp2
                have hall := Hall.out
                go_round
                case rel => exact ⟨k + 1, by omega, by omega, by go_num, fun t h1 h2 => by
                  by_cases e : t = k
                  · rw [e]; exact Hdg.out
                  · exact hall t h1 (by omega)⟩
                case measure => simp [intOf]; omega
              · have Hsc := Lib.hid (Hscan.out k hgk hk Hall.out (Or.inr (by simpa using hdg)))
                by_cases hlo : 48 ≤ s[k].toNat
                · have g1 : (48 : Int) ≤ (s[k].toNat : Int) := by omega
                  have g2 : ¬ (s[k].toNat : Int) ≤ 57 := by
                    simp only [isD, decide_eq_true_eq] at hdg; rw [hat] at hlo ⊢; omega
                  clear hat hdg hlo
                  go_wp2
                  go_ret2
                  refine ⟨?_, rfl⟩
                  rw [Hsc.out]
                  have ed : decide ((1 : Int) < ((k : Nat) : Int)) = decide (1 < k) := by rw [decide_eq_decide]; omega
                  first | (show Ending.returned (.tuple #[.int .i64 ((k : Nat) : Int), .bool (decide ((1 : Int) < ((k : Nat) : Int)))]) = .returned (.tuple #[.int .i64 ((k : Nat) : Int), .bool (decide (1 < k))]); rw [ed]) | rfl
                · have g1 : ¬ (48 : Int) ≤ (s[k].toNat : Int) := by omega
                  clear hat hdg hlo
                  go_wp2
                  go_ret2
                  refine ⟨?_, rfl⟩
                  rw [Hsc.out]
                  have ed : decide ((1 : Int) < ((k : Nat) : Int)) = decide (1 < k) := by rw [decide_eq_decide]; omega
                  first | (show Ending.returned (.tuple #[.int .i64 ((k : Nat) : Int), .bool (decide ((1 : Int) < ((k : Nat) : Int)))]) = .returned (.tuple #[.int .i64 ((k : Nat) : Int), .bool (decide (1 < k))]); rw [ed]) | rfl
            · obtain rfl : k = s.size := by omega
              have Hsc := Lib.hid (Hscan.out _ hgk hk Hall.out (Or.inl (bs_length s).symm))
              have ik : ¬ (s.size : Int) < (s.size : Int) := by omega
              go_wp2
              go_ret2
              refine ⟨?_, rfl⟩
              rw [Hsc.out]
              have ed : decide ((1 : Int) < ((s.size : Nat) : Int)) = decide (1 < s.size) := by rw [decide_eq_decide]; omega
              first | (show Ending.returned (.tuple #[.int .i64 ((s.size : Nat) : Int), .bool (decide ((1 : Int) < ((s.size : Nat) : Int)))]) = .returned (.tuple #[.int .i64 ((s.size : Nat) : Int), .bool (decide (1 < s.size))]); rw [ed]) | (rw [decide_eq_true (by omega)]; rfl)
        · have i1 : (1 : Int) < (s.size : Int) := by omega
          go_enter Tryz.func37, Tryz.ntmps37
          go_wp2
          go_loop [9] (fun i => ∃ k : Nat, 1 ≤ k ∧ k ≤ s.size ∧ i = .int .i64 k ∧ ∀ t, 1 ≤ t → t < k → isD ((bs s).getD t 0) = true) (fun i => s.size - (intOf i).toNat)
          case atStart => exact ⟨1, Nat.le_refl _, by omega, rfl, fun t h1 h2 => by omega⟩
          case round =>
            obtain ⟨k, hgk, hk, rfl, hall⟩ := hrel
            have Hall := Lib.hid hall
            clear hall
            by_cases hlt : k < s.size
            · have hat := bs_at s k hlt
              have ik : (k : Int) < (s.size : Int) := by omega
              by_cases hdg : isD ((bs s).getD k 0) = true
              · have hr : (48 : Int) ≤ (s[k].toNat : Int) ∧ (s[k].toNat : Int) ≤ 57 := by
                  simp only [isD, decide_eq_true_eq] at hdg; rw [hat]; omega
                obtain ⟨g1, g2⟩ := hr
                have Hdg := Lib.hid hdg
                clear hat hdg
                go_wp2
                have hall := Hall.out
                go_round
                case rel => exact ⟨k + 1, by omega, by omega, by go_num, fun t h1 h2 => by
                  by_cases e : t = k
                  · rw [e]; exact Hdg.out
                  · exact hall t h1 (by omega)⟩
                case measure => simp [intOf]; omega
              · have Hsc := Lib.hid (Hscan.out k hgk hk Hall.out (Or.inr (by simpa using hdg)))
                by_cases hlo : 48 ≤ s[k].toNat
                · have g1 : (48 : Int) ≤ (s[k].toNat : Int) := by omega
                  have g2 : ¬ (s[k].toNat : Int) ≤ 57 := by
                    simp only [isD, decide_eq_true_eq] at hdg; rw [hat] at hlo ⊢; omega
                  clear hat hdg hlo
                  go_wp2
                  go_ret2
                  refine ⟨?_, rfl⟩
                  rw [Hsc.out]
                  have ed : decide ((1 : Int) < ((k : Nat) : Int)) = decide (1 < k) := by rw [decide_eq_decide]; omega
                  first | (show Ending.returned (.tuple #[.int .i64 ((k : Nat) : Int), .bool (decide ((1 : Int) < ((k : Nat) : Int)))]) = .returned (.tuple #[.int .i64 ((k : Nat) : Int), .bool (decide (1 < k))]); rw [ed]) | rfl
                · have g1 : ¬ (48 : Int) ≤ (s[k].toNat : Int) := by omega
                  clear hat hdg hlo
                  go_wp2
                  go_ret2
                  refine ⟨?_, rfl⟩
                  rw [Hsc.out]
                  have ed : decide ((1 : Int) < ((k : Nat) : Int)) = decide (1 < k) := by rw [decide_eq_decide]; omega
                  first | (show Ending.returned (.tuple #[.int .i64 ((k : Nat) : Int), .bool (decide ((1 : Int) < ((k : Nat) : Int)))]) = .returned (.tuple #[.int .i64 ((k : Nat) : Int), .bool (decide (1 < k))]); rw [ed]) | rfl
            · obtain rfl : k = s.size := by omega
              have Hsc := Lib.hid (Hscan.out _ hgk hk Hall.out (Or.inl (bs_length s).symm))
              have ik : ¬ (s.size : Int) < (s.size : Int) := by omega
              go_wp2
              go_ret2
              refine ⟨?_, rfl⟩
              rw [Hsc.out]
              have ed : decide ((1 : Int) < ((s.size : Nat) : Int)) = decide (1 < s.size) := by rw [decide_eq_decide]; omega
              first | (show Ending.returned (.tuple #[.int .i64 ((s.size : Nat) : Int), .bool (decide ((1 : Int) < ((s.size : Nat) : Int)))]) = .returned (.tuple #[.int .i64 ((s.size : Nat) : Int), .bool (decide (1 < s.size))]); rw [ed]) | (rw [decide_eq_true (by omega)]; rfl)
    · have hb : ((s[0].toNat : Int) == 45) = false := by rw [beq_eq_false_iff_ne, hat]; omega
      have hsg : sgl (bs s) = 0 := by unfold sgl; rw [if_neg h45]
      by_cases h48 : (bs s).getD 0 0 = 48
      · have hb1 : ((s[0].toNat : Int) == 48) = true := by rw [beq_iff_eq, hat]; omega
        have hsc := scan_nought (bs s) (by omega) h48
        rw [hsc]
        clear hat h45 h48 hsc hsg hlen
        go_enter Tryz.func37, Tryz.ntmps37
        go_wp2
        go_ret2
        exact ⟨rfl, rfl⟩
      · have hb1 : ((s[0].toNat : Int) == 48) = false := by rw [beq_eq_false_iff_ne, hat]; omega
        have Hscan : Hid (∀ k, 0 ≤ k → k ≤ s.size → (∀ t, 0 ≤ t → t < k → isD ((bs s).getD t 0) = true) → (k = (bs s).length ∨ isD ((bs s).getD k 0) = false) → scanN (bs s) = (k, decide (0 < k))) := by
          intro k q1 q2 q3 q4
          have := scan_digits (bs s) k (by rw [hsg]; exact q1) (by rw [hlen]; exact q2) (by rw [hsg]; exact fun h => h48 h.2) (by rw [hsg]; exact q3) q4
          rwa [hsg] at this
        clear hat h45 h48 hsg hlen
        go_enter Tryz.func37, Tryz.ntmps37
        go_wp2
        go_loop [9] (fun i => ∃ k : Nat, 0 ≤ k ∧ k ≤ s.size ∧ i = .int .i64 k ∧ ∀ t, 0 ≤ t → t < k → isD ((bs s).getD t 0) = true) (fun i => s.size - (intOf i).toNat)
        case atStart => exact ⟨0, Nat.le_refl _, by omega, rfl, fun t h1 h2 => by omega⟩
        case round =>
          obtain ⟨k, hgk, hk, rfl, hall⟩ := hrel
          have Hall := Lib.hid hall
          clear hall
          by_cases hlt : k < s.size
          · have hat := bs_at s k hlt
            have ik : (k : Int) < (s.size : Int) := by omega
            by_cases hdg : isD ((bs s).getD k 0) = true
            · have hr : (48 : Int) ≤ (s[k].toNat : Int) ∧ (s[k].toNat : Int) ≤ 57 := by
                simp only [isD, decide_eq_true_eq] at hdg; rw [hat]; omega
              obtain ⟨g1, g2⟩ := hr
              have Hdg := Lib.hid hdg
              clear hat hdg
              go_wp2
              have hall := Hall.out
              go_round
              case rel => exact ⟨k + 1, by omega, by omega, by go_num, fun t h1 h2 => by
                by_cases e : t = k
                · rw [e]; exact Hdg.out
                · exact hall t h1 (by omega)⟩
              case measure => simp [intOf]; omega
            · have Hsc := Lib.hid (Hscan.out k hgk hk Hall.out (Or.inr (by simpa using hdg)))
              by_cases hlo : 48 ≤ s[k].toNat
              · have g1 : (48 : Int) ≤ (s[k].toNat : Int) := by omega
                have g2 : ¬ (s[k].toNat : Int) ≤ 57 := by
                  simp only [isD, decide_eq_true_eq] at hdg; rw [hat] at hlo ⊢; omega
                clear hat hdg hlo
                go_wp2
                go_ret2
                refine ⟨?_, rfl⟩
                rw [Hsc.out]
                have ed : decide ((0 : Int) < ((k : Nat) : Int)) = decide (0 < k) := by rw [decide_eq_decide]; omega
                first | (show Ending.returned (.tuple #[.int .i64 ((k : Nat) : Int), .bool (decide ((0 : Int) < ((k : Nat) : Int)))]) = .returned (.tuple #[.int .i64 ((k : Nat) : Int), .bool (decide (0 < k))]); rw [ed]) | rfl
              · have g1 : ¬ (48 : Int) ≤ (s[k].toNat : Int) := by omega
                clear hat hdg hlo
                go_wp2
                go_ret2
                refine ⟨?_, rfl⟩
                rw [Hsc.out]
                have ed : decide ((0 : Int) < ((k : Nat) : Int)) = decide (0 < k) := by rw [decide_eq_decide]; omega
                first | (show Ending.returned (.tuple #[.int .i64 ((k : Nat) : Int), .bool (decide ((0 : Int) < ((k : Nat) : Int)))]) = .returned (.tuple #[.int .i64 ((k : Nat) : Int), .bool (decide (0 < k))]); rw [ed]) | rfl
          · obtain rfl : k = s.size := by omega
            have Hsc := Lib.hid (Hscan.out _ hgk hk Hall.out (Or.inl (bs_length s).symm))
            have ik : ¬ (s.size : Int) < (s.size : Int) := by omega
            go_wp2
            go_ret2
            refine ⟨?_, rfl⟩
            rw [Hsc.out]
            have ed : decide ((0 : Int) < ((s.size : Nat) : Int)) = decide (0 < s.size) := by rw [decide_eq_decide]; omega
            first | (show Ending.returned (.tuple #[.int .i64 ((s.size : Nat) : Int), .bool (decide ((0 : Int) < ((s.size : Nat) : Int)))]) = .returned (.tuple #[.int .i64 ((s.size : Nat) : Int), .bool (decide (0 < s.size))]); rw [ed]) | (rw [decide_eq_true (by omega)]; rfl)

end Go.Proofs.YtdiojbgbeeojkaaGreatDoor

/-
  The reference's reading: zread's two loops.
-/
namespace Go.Proofs.YtdiojbgbeeojkaaGreatDoor
open Go.RowKit

/-- The digits from a on, b ahead of the end of i. -/
def dseg (D : List Nat) (a b : Nat) : List Nat := (D.take b).drop a
theorem dseg_snoc (D : List Nat) (a b : Nat) (h : a ≤ b) (hb : b < D.length) : dseg D a (b + 1) = dseg D a b ++ [D.getD b 0] := by
  unfold dseg
  rw [take_zsucc D b hb, List.drop_append_of_le_length (by rw [List.length_take]; omega)]
theorem dseg_nil (D : List Nat) (a : Nat) : dseg D a a = [] := by
  unfold dseg
  rw [List.drop_eq_nil_iff]; rw [List.length_take]; omega
theorem dseg_len (D : List Nat) (a b : Nat) (hb : b ≤ D.length) : (dseg D a b).length = b - a := by
  unfold dseg; rw [List.length_drop, List.length_take]; omega
theorem drop_dseg (D : List Nat) (a b : Nat) (h : a ≤ b) : D.drop a = dseg D a b ++ D.drop b := by
  unfold dseg
  conv => lhs; rw [← List.take_append_drop b D]
  by_cases hb : b ≤ D.length
  · rw [List.drop_append_of_le_length (by rw [List.length_take]; omega)]
  · rw [List.drop_of_length_le (l := D) (i := b) (by omega), List.append_nil, List.append_nil]

/-- A group of four digits more. -/
theorem zread_step {D l : List Nat} {i k : Nat} (hk : D.length - i = 4 * k) (hl : l.length = k) (hv : zval l = dval (D.drop i)) : zval (l ++ [dval (dseg D (i - 4) i)]) = dval (D.drop (i - 4)) := by
  rw [zval_snoc, hl, hv, drop_dseg D (i - 4) i (by omega), dval_append, List.length_drop, hk]
  have : (10000 : Nat) ^ k = 10 ^ (4 * k) := by rw [Nat.pow_mul]
  rw [this, Nat.mul_comm]
  omega

set_option maxHeartbeats 2000000 in
set_option maxRecDepth 100000 in
theorem zread_blk (s : ByteArray) (w : World) (had : AllD ((bs s).drop (sgl (bs s)))) (hs : s.size ≤ 1000000) (z : Int) (hz : z = if sgl (bs s) = 1 then -(dval ((bs s).drop (sgl (bs s))) : Int) else (dval ((bs s).drop (sgl (bs s))) : Int)) :
    Calls Tryz.prog 39 #[.string s] w (ZRetB w z 250001 (fun a' => ∀ x, a' = some x → w.heap.size + 1 ≤ x.block)) := by
  obtain ⟨i0, hi, hz0, hz1, hz2⟩ := info_parts int_info
  have Hz := Lib.hid hz; have Had := Lib.hid had
  clear hz had
  have hE := ext_alloc w (.cells #[.bool false, .slice none 0 0] 33)
  have hR := zres_new w
  by_cases h0 : s.size = 0
  · have e := bs_nil s h0
    subst e
    have hz9 : z = 0 := by rw [Hz.out]; simp [bs, sgl, dval]
    subst hz9
    go_enter Tryz.func39, Tryz.ntmps39
    go_wp2_with fail
    generalize w.alloc (.cells #[.bool false, .slice none 0 0] 33) = W0 at *
    go_loopw [4, 5] (fun dv iv wr => dv = .slice none 0 0 ∧ iv = .int .i64 0 ∧ Ext W0 wr) (fun _ _ _ => 0)
    case atStart => exact ⟨rfl, rfl, Ext.refl _⟩
    case round =>
      obtain ⟨rfl, rfl, hEr⟩ := hrel
      go_wp2_with fail
      refine (zmade_blk false none [] 0 0 wr rfl (Or.inl ⟨rfl, rfl⟩) ZD.nil (Nat.le_refl _) (Nat.zero_le _) (by omega) 0 (by simp [zval])).mono ?_
      rintro e w9 ⟨b', a', n', c', rfl, hI, hle, hx9, hP⟩
      have hR9 := hR.ext (hEr.trans hx9)
      have k0 := hR9.c0; have k1 := hR9.c1; have f0 := hR9.f 0; have f1 := hR9.f 1
      go_wp2_with fail
      exact bodyPost_ret (v := .agg #[.bool b', .slice a' n' c']) (by simp [results, Tryz.results39, go_sem, k0, k1]) rfl ⟨b', a', n', c', rfl, hI.keepRes hR9.row _ _, by omega, (Below.setCell (hE.trans (hEr.trans hx9)) (p := ⟨w.heap.size, 0, none⟩) (Nat.le_refl _) _).setCell (p := ⟨w.heap.size, 1, none⟩) (Nat.le_refl _) _, fun x hx => by rcases hP with h | h <;> rw [h] at hx <;> cases hx⟩
  · have hp : 0 < s.size := by omega
    have ip : (0 : Int) < (s.size : Int) := by omega
    have hat := bs_at s 0 hp
    by_cases h45 : (bs s).getD 0 0 = 45
    · have hb : ((s[0].toNat : Int) == 45) = true := by rw [beq_iff_eq, hat]; omega
      have hsg : sgl (bs s) = 1 := by unfold sgl; rw [if_pos h45]
      obtain ⟨t, ht⟩ : ∃ t, s.extract 1 s.size = t := ⟨_, rfl⟩
      have hbt : bs t = (bs s).drop 1 := by
        rw [← ht, bs_extract, List.take_of_length_le]
        rw [List.length_drop, bs_length]; omega
      have hts : t.size ≤ 1000000 := by rw [← bs_length, hbt, List.length_drop, bs_length]; omega
      have HadT : Hid (AllD (bs t)) := by
        have := Had.out
        rw [hsg, ← hbt] at this
        exact this
      have HzT : Hid (z = if true = true then -(dval (bs t) : Int) else (dval (bs t) : Int)) := by
        show _ = _
        rw [Hz.out, hsg, if_pos rfl, if_pos rfl, hbt]
      have i1 : (1 : Int) ≤ (s.size : Int) := by omega
      clear hat h45 h0 hsg hbt
      go_enter Tryz.func39, Tryz.ntmps39
      go_wp2_with fail
      clear ht hs
      generalize w.alloc (.cells #[.bool false, .slice none 0 0] 33) = W0 at *
      go_loopw [4, 5] (fun dv iv wr => ∃ (k : Nat) (i : Int) (l : List Nat), iv = .int .i64 i ∧ i = (t.size : Int) - 4 * (k : Int) ∧ i ≤ t.size ∧ -4 < i ∧ l.length = k ∧ k ≤ 250000 ∧ ZD l ∧ wr.ownsRow W0.heap.size 3 1 dv k (inC l) ∧ zval l = dval ((bs t).drop i.toNat) ∧ Ext W0 wr) (fun _ iv _ => (intOf iv).toNat)
      case atStart => exact ⟨0, t.size, [], by go_num, by omega, by omega, by omega, rfl, by omega, ZD.nil, (show W0.ownsRow W0.heap.size 3 1 (.slice none 0 0) 0 (inC []) from World.ownsRow_nil _ _ _ _), by rw [List.drop_of_length_le (by rw [bs_length]; omega)]; rfl, Ext.refl _⟩
      case round =>
        obtain ⟨k, i, l, rfl, hik, hi1, hi2, hl, hkb, hd, hown, hval, hEr⟩ := hrel
        have Hl := Lib.hid hl; have Hd := Lib.hid hd; have Hval := Lib.hid hval; have Hown := Lib.hid hown; have Hik := Lib.hid hik
        clear hl hd hval hown hik
        by_cases hgo : 0 < i
        · go_wp2_with fail
          go_loop [6, 7] (fun nv jv => ∃ (j : Int), jv = .int .i64 j ∧ i - 4 ≤ j ∧ j ≤ i ∧ nv = .int .i64 (dval (dseg (bs t) (i - 4).toNat j.toNat) : Nat)) (fun _ jv => (i - intOf jv).toNat)
          case atStart => exact ⟨i - 4, by go_num, by omega, by omega, by rw [dseg_nil]; rfl⟩
          case round =>
            obtain ⟨j, rfl, hj1, hj2, rfl⟩ := hrel
            have hnb : j < i → dval (dseg (bs t) (i - 4).toNat j.toNat) < 1000 := by
              intro hji
              have h1 := dval_lt _ ((HadT.out.take j.toNat).drop (i - 4).toNat)
              have h2 := dseg_len (bs t) (i - 4).toNat j.toNat (by rw [bs_length]; omega)
              unfold dseg at h2 ⊢
              rw [h2] at h1
              have h3 : (10 : Nat) ^ (j.toNat - (i - 4).toNat) ≤ 10 ^ 3 := Nat.pow_le_pow_right (by decide) (by omega)
              omega
            by_cases hji : j < i
            · have hnb' := hnb hji
              by_cases hj0 : 0 ≤ j
              · obtain ⟨jn, rfl⟩ : ∃ jn : Nat, j = (jn : Int) := ⟨j.toNat, by omega⟩
                have hjl : jn < t.size := by omega
                have hatj := bs_at t jn hjl
                have hdj := HadT.out jn (by rw [bs_length]; exact hjl)
                simp only [isD, decide_eq_true_eq] at hdj
                have Hst : Hid (dval (dseg (bs t) (i - 4).toNat (jn + 1)) = 10 * dval (dseg (bs t) (i - 4).toNat jn) + ((bs t).getD jn 0 - 48)) := by
                  show _ = _
                  rw [dseg_snoc _ _ _ (by omega) (by rw [bs_length]; exact hjl), dval_snoc]
                obtain ⟨x, hx⟩ : ∃ x, t[jn].toNat = x := ⟨_, rfl⟩
                have hx1 : 48 ≤ x ∧ x ≤ 57 := by rw [← hx, hatj]; exact hdj
                obtain ⟨hx1, hx2⟩ := hx1
                rw [← hatj, hx] at Hst
                have etn : ((jn : Int)).toNat = jn := by omega
                rw [etn] at hnb' ⊢
                obtain ⟨nn, hnn⟩ : ∃ nn, dval (dseg (bs t) (i - 4).toNat jn) = nn := ⟨_, rfl⟩
                rw [hnn] at Hst hnb' ⊢
                have ehx : (t[jn].toNat : Int) = (x : Int) := by rw [hx]
                have ijl : (jn : Int) < (t.size : Int) := by omega
                clear hnb hatj hdj hx hnn etn
                go_wp2_with fail
                go_round
                case rel => exact ⟨(jn : Int) + 1, by go_num, by omega, by omega, by rw [show ((jn : Int) + 1).toNat = jn + 1 by omega, Hst.out]; go_num⟩
                case measure => simp [intOf]; omega
              · have e0 : j.toNat = 0 := by omega
                have e1 : (j + 1).toNat = 0 := by omega
                rw [e0]
                obtain ⟨nn, hnn⟩ : ∃ nn, dval (dseg (bs t) (i - 4).toNat 0) = nn := ⟨_, rfl⟩
                rw [hnn]
                have Hnn := Lib.hid hnn
                clear hnb hnb' hnn
                go_wp2_with fail
                go_round
                case rel => exact ⟨j + 1, by go_num, by omega, by omega, by rw [e1, Hnn.out]⟩
                case measure => simp [intOf]; omega
            · obtain rfl : j = i := by omega
              have Hstep := Lib.hid (zread_step (D := bs t) (l := l) (i := j.toNat) (k := k) (by rw [bs_length]; have := Hik.out; omega) Hl.out Hval.out)
              have hdl : dval (dseg (bs t) (j.toNat - 4) j.toNat) < 10000 := by
                have h1 := dval_lt _ ((HadT.out.take j.toNat).drop (j.toNat - 4))
                have h2 := dseg_len (bs t) (j.toNat - 4) j.toNat (by rw [bs_length]; omega)
                unfold dseg at h2 ⊢
                rw [h2] at h1
                have h3 : (10 : Nat) ^ (j.toNat - (j.toNat - 4)) ≤ 10 ^ 4 := Nat.pow_le_pow_right (by decide) (by omega)
                omega
              have e4 : (j - 4).toNat = j.toNat - 4 := by omega
              rw [e4]
              obtain ⟨dg, hdg⟩ : ∃ dg, dval (dseg (bs t) (j.toNat - 4) j.toNat) = dg := ⟨_, rfl⟩
              rw [hdg] at Hstep hdl ⊢
              have Hk4 : Hid (k + 1 ≤ 250000) := by show _ ≤ _; have := Hik.out; omega
              have hkk := Hk4.out
              clear hnb hdg
              go_wp2_with (at_builtin; refine wpList_append_own _ rfl _ _ 31 rfl W0.heap.size 3 i0 (.int .i64 0) 1 8 Tryz.underlying31 hi hz0 hz1 hz2 rfl (by decide) _ k (inC l) rfl (Hown.out.alloc _) ⟨wr.heap.size, 0, none⟩ 1 1 [.int .i64 (dg : Int)] rfl rfl (new_int wr _ _) (one_int _) (by unfold maxLen; omega) (by omega) (Nat.le_trans hEr.size (ext_alloc wr _).size) ?_; intro v' w' hown' hgrow' _)
              go_roundw
              case rel => exact ⟨k + 1, j - 4, l ++ [dg], by go_num, by have := Hik.out; omega, by omega, by omega, by rw [List.length_append, Hl.out]; rfl, hkk, Hd.out.snoc hdl, by rw [inC_snoc]; exact hown', by rw [e4]; exact Hstep.out, ext_grown (hEr.trans (ext_alloc wr _)) hgrow' (fun j hj => (Hown.out.lt j hj).1)⟩
              case measure => simp [intOf]; omega
        · have hz9 : zval l = dval (bs t) := by
            have := Hval.out
            rw [show i.toNat = 0 by omega, List.drop_zero] at this
            exact this
          obtain ⟨a9, c9, rfl, q1, q2, q3, q4⟩ := iseg_of_own Hown.out
          have Hbk : Hid (∀ x, a9 = some x → W0.heap.size ≤ x.block) := fun x hx => (Hown.out.lt x.block (by rw [hx]; rfl)).1
          have lW : w.heap.size + 1 ≤ W0.heap.size := hR.lt
          have Hm := Lib.hid (zmade_blk true a9 l k c9 wr q3 q4 Hd.out q1 q2 (by omega) z (by rw [hz9]; exact HzT.out))
          clear hz9
          go_wp2_with fail
          refine Hm.out.mono ?_
          rintro e w9 ⟨b', a', n', c', rfl, hI, hle, hx9, hP⟩
          have hR9 := hR.ext (hEr.trans hx9)
          have k0 := hR9.c0; have k1 := hR9.c1; have f0 := hR9.f 0; have f1 := hR9.f 1
          go_wp2_with fail
          exact bodyPost_ret (v := .agg #[.bool b', .slice a' n' c']) (by simp [results, Tryz.results39, go_sem, k0, k1]) rfl ⟨b', a', n', c', rfl, hI.keepRes hR9.row _ _, by omega, (Below.setCell (hE.trans (hEr.trans hx9)) (p := ⟨w.heap.size, 0, none⟩) (Nat.le_refl _) _).setCell (p := ⟨w.heap.size, 1, none⟩) (Nat.le_refl _) _, fun x hx => by
            rcases hP with h | h
            · rw [h] at hx; cases hx
            · rw [h] at hx; exact Nat.le_trans lW (Hbk.out x hx)⟩
    · have hb : ((s[0].toNat : Int) == 45) = false := by rw [beq_eq_false_iff_ne, hat]; omega
      have hsg : sgl (bs s) = 0 := by unfold sgl; rw [if_neg h45]
      have HadT : Hid (AllD (bs s)) := by
        have := Had.out
        rw [hsg, List.drop_zero] at this
        exact this
      have HzT : Hid (z = if false = true then -(dval (bs s) : Int) else (dval (bs s) : Int)) := by
        show _ = _
        rw [Hz.out, hsg, if_neg (by decide), List.drop_zero]; rfl
      clear hat h45 h0 hsg
      go_enter Tryz.func39, Tryz.ntmps39
      go_wp2_with fail
      generalize w.alloc (.cells #[.bool false, .slice none 0 0] 33) = W0 at *
      go_loopw [4, 5] (fun dv iv wr => ∃ (k : Nat) (i : Int) (l : List Nat), iv = .int .i64 i ∧ i = (s.size : Int) - 4 * (k : Int) ∧ i ≤ s.size ∧ -4 < i ∧ l.length = k ∧ k ≤ 250000 ∧ ZD l ∧ wr.ownsRow W0.heap.size 3 1 dv k (inC l) ∧ zval l = dval ((bs s).drop i.toNat) ∧ Ext W0 wr) (fun _ iv _ => (intOf iv).toNat)
      case atStart => exact ⟨0, s.size, [], by go_num, by omega, by omega, by omega, rfl, by omega, ZD.nil, (show W0.ownsRow W0.heap.size 3 1 (.slice none 0 0) 0 (inC []) from World.ownsRow_nil _ _ _ _), by rw [List.drop_of_length_le (by rw [bs_length]; omega)]; rfl, Ext.refl _⟩
      case round =>
        obtain ⟨k, i, l, rfl, hik, hi1, hi2, hl, hkb, hd, hown, hval, hEr⟩ := hrel
        have Hl := Lib.hid hl; have Hd := Lib.hid hd; have Hval := Lib.hid hval; have Hown := Lib.hid hown; have Hik := Lib.hid hik
        clear hl hd hval hown hik
        by_cases hgo : 0 < i
        · go_wp2_with fail
          go_loop [6, 7] (fun nv jv => ∃ (j : Int), jv = .int .i64 j ∧ i - 4 ≤ j ∧ j ≤ i ∧ nv = .int .i64 (dval (dseg (bs s) (i - 4).toNat j.toNat) : Nat)) (fun _ jv => (i - intOf jv).toNat)
          case atStart => exact ⟨i - 4, by go_num, by omega, by omega, by rw [dseg_nil]; rfl⟩
          case round =>
            obtain ⟨j, rfl, hj1, hj2, rfl⟩ := hrel
            have hnb : j < i → dval (dseg (bs s) (i - 4).toNat j.toNat) < 1000 := by
              intro hji
              have h1 := dval_lt _ ((HadT.out.take j.toNat).drop (i - 4).toNat)
              have h2 := dseg_len (bs s) (i - 4).toNat j.toNat (by rw [bs_length]; omega)
              unfold dseg at h2 ⊢
              rw [h2] at h1
              have h3 : (10 : Nat) ^ (j.toNat - (i - 4).toNat) ≤ 10 ^ 3 := Nat.pow_le_pow_right (by decide) (by omega)
              omega
            by_cases hji : j < i
            · have hnb' := hnb hji
              by_cases hj0 : 0 ≤ j
              · obtain ⟨jn, rfl⟩ : ∃ jn : Nat, j = (jn : Int) := ⟨j.toNat, by omega⟩
                have hjl : jn < s.size := by omega
                have hatj := bs_at s jn hjl
                have hdj := HadT.out jn (by rw [bs_length]; exact hjl)
                simp only [isD, decide_eq_true_eq] at hdj
                have Hst : Hid (dval (dseg (bs s) (i - 4).toNat (jn + 1)) = 10 * dval (dseg (bs s) (i - 4).toNat jn) + ((bs s).getD jn 0 - 48)) := by
                  show _ = _
                  rw [dseg_snoc _ _ _ (by omega) (by rw [bs_length]; exact hjl), dval_snoc]
                obtain ⟨x, hx⟩ : ∃ x, s[jn].toNat = x := ⟨_, rfl⟩
                have hx1 : 48 ≤ x ∧ x ≤ 57 := by rw [← hx, hatj]; exact hdj
                obtain ⟨hx1, hx2⟩ := hx1
                rw [← hatj, hx] at Hst
                have etn : ((jn : Int)).toNat = jn := by omega
                rw [etn] at hnb' ⊢
                obtain ⟨nn, hnn⟩ : ∃ nn, dval (dseg (bs s) (i - 4).toNat jn) = nn := ⟨_, rfl⟩
                rw [hnn] at Hst hnb' ⊢
                have ehx : (s[jn].toNat : Int) = (x : Int) := by rw [hx]
                have ijl : (jn : Int) < (s.size : Int) := by omega
                clear hnb hatj hdj hx hnn etn
                go_wp2_with fail
                go_round
                case rel => exact ⟨(jn : Int) + 1, by go_num, by omega, by omega, by rw [show ((jn : Int) + 1).toNat = jn + 1 by omega, Hst.out]; go_num⟩
                case measure => simp [intOf]; omega
              · have e0 : j.toNat = 0 := by omega
                have e1 : (j + 1).toNat = 0 := by omega
                rw [e0]
                obtain ⟨nn, hnn⟩ : ∃ nn, dval (dseg (bs s) (i - 4).toNat 0) = nn := ⟨_, rfl⟩
                rw [hnn]
                have Hnn := Lib.hid hnn
                clear hnb hnb' hnn
                go_wp2_with fail
                go_round
                case rel => exact ⟨j + 1, by go_num, by omega, by omega, by rw [e1, Hnn.out]⟩
                case measure => simp [intOf]; omega
            · obtain rfl : j = i := by omega
              have Hstep := Lib.hid (zread_step (D := bs s) (l := l) (i := j.toNat) (k := k) (by rw [bs_length]; have := Hik.out; omega) Hl.out Hval.out)
              have hdl : dval (dseg (bs s) (j.toNat - 4) j.toNat) < 10000 := by
                have h1 := dval_lt _ ((HadT.out.take j.toNat).drop (j.toNat - 4))
                have h2 := dseg_len (bs s) (j.toNat - 4) j.toNat (by rw [bs_length]; omega)
                unfold dseg at h2 ⊢
                rw [h2] at h1
                have h3 : (10 : Nat) ^ (j.toNat - (j.toNat - 4)) ≤ 10 ^ 4 := Nat.pow_le_pow_right (by decide) (by omega)
                omega
              have e4 : (j - 4).toNat = j.toNat - 4 := by omega
              rw [e4]
              obtain ⟨dg, hdg⟩ : ∃ dg, dval (dseg (bs s) (j.toNat - 4) j.toNat) = dg := ⟨_, rfl⟩
              rw [hdg] at Hstep hdl ⊢
              have Hk4 : Hid (k + 1 ≤ 250000) := by show _ ≤ _; have := Hik.out; omega
              have hkk := Hk4.out
              clear hnb hdg
              go_wp2_with (at_builtin; refine wpList_append_own _ rfl _ _ 31 rfl W0.heap.size 3 i0 (.int .i64 0) 1 8 Tryz.underlying31 hi hz0 hz1 hz2 rfl (by decide) _ k (inC l) rfl (Hown.out.alloc _) ⟨wr.heap.size, 0, none⟩ 1 1 [.int .i64 (dg : Int)] rfl rfl (new_int wr _ _) (one_int _) (by unfold maxLen; omega) (by omega) (Nat.le_trans hEr.size (ext_alloc wr _).size) ?_; intro v' w' hown' hgrow' _)
              go_roundw
              case rel => exact ⟨k + 1, j - 4, l ++ [dg], by go_num, by have := Hik.out; omega, by omega, by omega, by rw [List.length_append, Hl.out]; rfl, hkk, Hd.out.snoc hdl, by rw [inC_snoc]; exact hown', by rw [e4]; exact Hstep.out, ext_grown (hEr.trans (ext_alloc wr _)) hgrow' (fun j hj => (Hown.out.lt j hj).1)⟩
              case measure => simp [intOf]; omega
        · have hz9 : zval l = dval (bs s) := by
            have := Hval.out
            rw [show i.toNat = 0 by omega, List.drop_zero] at this
            exact this
          obtain ⟨a9, c9, rfl, q1, q2, q3, q4⟩ := iseg_of_own Hown.out
          have Hbk : Hid (∀ x, a9 = some x → W0.heap.size ≤ x.block) := fun x hx => (Hown.out.lt x.block (by rw [hx]; rfl)).1
          have lW : w.heap.size + 1 ≤ W0.heap.size := hR.lt
          have Hm := Lib.hid (zmade_blk false a9 l k c9 wr q3 q4 Hd.out q1 q2 (by omega) z (by rw [hz9]; exact HzT.out))
          clear hz9
          go_wp2_with fail
          refine Hm.out.mono ?_
          rintro e w9 ⟨b', a', n', c', rfl, hI, hle, hx9, hP⟩
          have hR9 := hR.ext (hEr.trans hx9)
          have k0 := hR9.c0; have k1 := hR9.c1; have f0 := hR9.f 0; have f1 := hR9.f 1
          go_wp2_with fail
          exact bodyPost_ret (v := .agg #[.bool b', .slice a' n' c']) (by simp [results, Tryz.results39, go_sem, k0, k1]) rfl ⟨b', a', n', c', rfl, hI.keepRes hR9.row _ _, by omega, (Below.setCell (hE.trans (hEr.trans hx9)) (p := ⟨w.heap.size, 0, none⟩) (Nat.le_refl _) _).setCell (p := ⟨w.heap.size, 1, none⟩) (Nat.le_refl _) _, fun x hx => by
            rcases hP with h | h
            · rw [h] at hx; cases hx
            · rw [h] at hx; exact Nat.le_trans lW (Hbk.out x hx)⟩

end Go.Proofs.YtdiojbgbeeojkaaGreatDoor

/-
  The reference's reading: ZParse.
-/
namespace Go.Proofs.YtdiojbgbeeojkaaGreatDoor
open Go.RowKit

theorem ISeg.only {w w' : World} {ao : Option Addr} {l : List Nat} {g : Nat} (h : ISeg w ao l) (k : Only g w w') (hb : ∀ a, ao = some a → a.block ≠ g) : ISeg w' ao l := by
  rcases h with h | ⟨b, o, rfl, hb', hc⟩
  · exact Or.inl h
  · exact Or.inr ⟨b, o, rfl, hb'.block (k.block b (hb _ rfl)), fun t ht => (World.cell?_of_block (a := ⟨b, o + t, none⟩) (k.block b (hb _ rfl))).trans (hc t ht)⟩
theorem IsZ.only {w w' : World} {neg : Bool} {ao : Option Addr} {n c : Nat} {z : Int} {g : Nat} (h : IsZ w neg ao n c z) (k : Only g w w') (hb : ∀ a, ao = some a → a.block ≠ g) : IsZ w' neg ao n c z := by
  obtain ⟨l, h1, h2, h3, h4, h5⟩ := h
  exact ⟨l, h1, h2, h3, h4.only k hb, h5⟩

set_option maxHeartbeats 1000000 in
set_option maxRecDepth 100000 in
theorem ZParse_any (s : ByteArray) (w : World) (hs : s.size ≤ 9223372036854775807) :
    Calls Tryz.prog 24 #[.string s] w fun e w' => ∃ b' : Bool, ∃ (a' : Option Addr) (n' c' : Nat), e = .returned (.tuple #[.agg #[.bool b', .slice a' n' c'], .agg #[.int .i64 (pcode (bs s) : Nat), .int .i64 (pat (bs s) : Nat)]]) ∧ IsZ w' b' a' n' c' (pz (bs s)) ∧ n' ≤ 250001 ∧ Ext w w' := by
  have Hscan := Lib.hid (fun wx => word_any s wx hs)
  have Hlong := Lib.hid (fun wx => digitsOf_any s wx hs)
  have hlen := bs_length s
  have hsl := sgl_le (bs s)
  obtain ⟨en, hen⟩ : ∃ en, (scanN (bs s)).1 = en := ⟨_, rfl⟩
  obtain ⟨ok, hok⟩ : ∃ ok, (scanN (bs s)).2 = ok := ⟨_, rfl⟩
  obtain ⟨dn, hdn⟩ : ∃ dn, s.size - sgl (bs s) = dn := ⟨_, rfl⟩
  rw [hen, hok] at Hscan
  rw [hdn] at Hlong
  suffices hmain : Calls Tryz.prog 24 #[.string s] w fun e w' => ∃ v1 v2 : Value, e = .returned (.tuple #[v1, v2]) ∧ v2 = .agg #[.int .i64 (pcode (bs s) : Nat), .int .i64 (pat (bs s) : Nat)] ∧ ZRet w (pz (bs s)) 250001 (.returned v1) w' by
    refine hmain.mono ?_
    rintro e w' ⟨v1, v2, rfl, rfl, b', a', n', c', h1, h2, h3, h4⟩
    cases h1
    exact ⟨b', a', n', c', rfl, h2, h3, h4⟩
  by_cases hbad : ok = true ∧ ¬ en < s.size
  · obtain ⟨rfl, hlt⟩ := hbad
    have hil : ¬ ((en : Nat) : Int) < (s.size : Int) := by omega
    by_cases hlg : 1000 < dn
    · have Hz : Hid (pz (bs s) = 0) := by show _ = _; unfold pz; rw [if_neg]; rw [hlen, hdn]; exact fun h => h.2.2 hlg
      have Hc : Hid (pcode (bs s) = 2) := by show _ = _; unfold pcode; rw [if_pos ⟨hok, by rw [hen, hlen]; exact hlt⟩, if_pos (by rw [hlen, hdn]; exact hlg)]
      have Ha : Hid (pat (bs s) = 0) := by show _ = _; unfold pat; rw [if_pos ⟨hok, by rw [hen, hlen]; exact hlt⟩]
      have ilg : (1000 : Int) < (dn : Int) := by omega
      rw [Hz.out, Hc.out, Ha.out]
      clear hlg hlt hen hok hlen hdn hsl
      go_enter Tryz.func24, Tryz.ntmps24
      go_wp2_with fail
      refine (Hscan.out _).mono ?_
      rintro e w1 ⟨rfl, rfl⟩
      go_wp2_with fail
      refine (Hlong.out _).mono ?_
      rintro e w1 ⟨rfl, rfl⟩
      go_wp2_with fail
      exact bodyPost_ret (v := .tuple #[.agg #[.bool false, .slice none 0 0], .agg #[.int .i64 2, .int .i64 0]]) (by simp [results, Tryz.results24, go_sem]) rfl ⟨_, _, rfl, rfl, false, none, 0, 0, rfl, IsZ.zero _, by omega, (ext_alloc _ _).trans (ext_alloc _ _)⟩
    · have Hz : Hid (pz (bs s) = if sgl (bs s) = 1 then -(dval ((bs s).drop (sgl (bs s))) : Int) else (dval ((bs s).drop (sgl (bs s))) : Int)) := by
        show _ = _
        unfold pz
        rw [if_pos ⟨hok, by rw [hen, hlen]; exact hlt, by rw [hlen, hdn]; exact hlg⟩]
        unfold sgn
        have := hsl.2
        by_cases h1 : sgl (bs s) = 1
        · rw [if_pos h1, h1]; rfl
        · have h0 : sgl (bs s) = 0 := by omega
          rw [if_neg h1, h0]; rfl
      have Hc : Hid (pcode (bs s) = 0) := by show _ = _; unfold pcode; rw [if_pos ⟨hok, by rw [hen, hlen]; exact hlt⟩, if_neg (by rw [hlen, hdn]; exact hlg)]
      have Ha : Hid (pat (bs s) = 0) := by show _ = _; unfold pat; rw [if_pos ⟨hok, by rw [hen, hlen]; exact hlt⟩]
      have Hread := Lib.hid (fun wx => zread_blk s wx (allD_of_scan _ hok (by rw [hen, hlen]; exact hlt)) (by omega) (pz (bs s)) Hz.out)
      have ilg : ¬ (1000 : Int) < (dn : Int) := by omega
      rw [Hc.out, Ha.out]
      obtain ⟨z, ez⟩ : ∃ z, pz (bs s) = z := ⟨_, rfl⟩
      rw [ez] at Hread ⊢
      clear hlg hlt hen hok hlen hdn hsl ez Hz
      have hR := (zres_new w).ext (ext_alloc _ (.cells #[.int .i64 0, .int .i64 0] 28))
      have hF : FRes ((w.alloc (.cells #[.bool false, .slice none 0 0] 33)).alloc (.cells #[.int .i64 0, .int .i64 0] 28)) (w.heap.size + 1) := by
        refine ⟨by simp, ?_⟩
        have := heap_alloc_new (w.alloc (.cells #[.bool false, .slice none 0 0] 33)) (.cells #[.int .i64 0, .int .i64 0] 28)
        simpa using this
      have hE : Ext w ((w.alloc (.cells #[.bool false, .slice none 0 0] 33)).alloc (.cells #[.int .i64 0, .int .i64 0] 28)) := (ext_alloc _ _).trans (ext_alloc _ _)
      go_enter Tryz.func24, Tryz.ntmps24
      go_wp2_with fail
      generalize (w.alloc (.cells #[.bool false, .slice none 0 0] 33)).alloc (.cells #[.int .i64 0, .int .i64 0] 28) = W0 at *
      refine (Hscan.out _).mono ?_
      rintro e w1 ⟨rfl, rfl⟩
      go_wp2_with fail
      refine (Hlong.out _).mono ?_
      rintro e w1 ⟨rfl, rfl⟩
      go_wp2_with fail
      refine (Hread.out _).mono ?_
      rintro e w3 ⟨b', a', n', c', rfl, hI, hle, he3, hP⟩
      have hr4 := hR.ext he3; have hf4 := hF.ext he3
      have k0 := hr4.c0; have k1 := hr4.c1; have g0 := hr4.f 0; have g1 := hr4.f 1
      have k2 := hf4.c0; have k3 := hf4.c1; have g2 := hf4.f0; have g3 := hf4.f1
      have lF := hF.lt
      have hO : Only (w.heap.size + 1) ((w3.setCell ⟨w.heap.size, 0, none⟩ (.bool b')).setCell ⟨w.heap.size, 1, none⟩ (.slice a' n' c')) ((((w3.setCell ⟨w.heap.size, 0, none⟩ (.bool b')).setCell ⟨w.heap.size, 1, none⟩ (.slice a' n' c')).setCell ⟨w.heap.size + 1, 0, none⟩ (.int .i64 0)).setCell ⟨w.heap.size + 1, 1, none⟩ (.int .i64 0)) := ((Only.refl _ _).setCell _ _).setCell _ _
      have HI := Lib.hid ((hI.keepRes hr4.row (.bool b') (.slice a' n' c')).only hO (fun a ha => by have := hP a ha; omega))
      have HE := Lib.hid (((((Below.setCell (hE.trans he3) (p := ⟨w.heap.size, 0, none⟩) (Nat.le_refl _) (.bool b')).setCell (p := ⟨w.heap.size, 1, none⟩) (Nat.le_refl _) (.slice a' n' c')).setCell (p := ⟨w.heap.size + 1, 0, none⟩) (Nat.le_succ _) (.int .i64 0)).setCell (p := ⟨w.heap.size + 1, 1, none⟩) (Nat.le_succ _) (.int .i64 0)))
      clear hP lF hO
      go_wp2_with fail
      exact bodyPost_ret (v := .tuple #[.agg #[.bool b', .slice a' n' c'], .agg #[.int .i64 0, .int .i64 0]]) (by simp [results, Tryz.results24, go_sem, k0, k1, k2, k3]) rfl ⟨_, _, rfl, rfl, b', a', n', c', rfl, HI.out, hle, HE.out⟩
  · have Hz : Hid (pz (bs s) = 0) := by show _ = _; unfold pz; rw [if_neg]; rw [hok, hen, hlen]; exact fun h => hbad ⟨h.1, h.2.1⟩
    have Hc : Hid (pcode (bs s) = 1) := by show _ = _; unfold pcode; rw [if_neg]; rw [hok, hen, hlen]; exact hbad
    have Ha : Hid (pat (bs s) = en) := by show _ = _; unfold pat; rw [if_neg, hen]; rw [hok, hen, hlen]; exact hbad
    rw [Hz.out, Hc.out, Ha.out]
    have hcase : ok = false ∨ (ok = true ∧ ((en : Nat) : Int) < (s.size : Int)) := by
      cases ok
      · exact Or.inl rfl
      · right; refine ⟨rfl, ?_⟩
        have : en < s.size := Decidable.byContradiction fun h => hbad ⟨rfl, h⟩
        omega
    clear hbad hen hok hlen hdn hsl
    rcases hcase with rfl | ⟨rfl, hil⟩
    all_goals
      go_enter Tryz.func24, Tryz.ntmps24
      go_wp2_with fail
      refine (Hscan.out _).mono ?_
      rintro e w1 ⟨rfl, rfl⟩
      go_wp2_with fail
      exact bodyPost_ret (v := .tuple #[.agg #[.bool false, .slice none 0 0], .agg #[.int .i64 1, .int .i64 (en : Nat)]]) (by simp [results, Tryz.results24, go_sem]) rfl ⟨_, _, rfl, rfl, false, none, 0, 0, rfl, IsZ.zero _, by omega, (ext_alloc _ _).trans (ext_alloc _ _)⟩

end Go.Proofs.YtdiojbgbeeojkaaGreatDoor
