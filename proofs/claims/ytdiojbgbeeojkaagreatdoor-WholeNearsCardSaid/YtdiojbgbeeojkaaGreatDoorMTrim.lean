/-
  trim: what is left of words without the noughts at their end; it lies where they lay.
-/
import Derived.Test.YtdiojbgbeeojkaaGreatDoorMBase
import Derived.Test.YtdiojbgbeeojkaaGreatDoorRows

namespace Go.Proofs.YtdiojbgbeeojkaaGreatDoor
open Go.RowKit

set_option maxHeartbeats 400000 in
theorem trim_any (ao : Option Addr) (l : List Nat) (c : Nat) (w : World) (hc : l.length ≤ c) (hm : c ≤ maxLen) (hs : Seg w ao l) :
    Calls Tryz.prog 88 #[.slice ao l.length c] w fun e w' => e = .returned (.slice ao (nlen l) (nlen l)) ∧ w = w' := by
  unfold maxLen at hm
  go_enter Tryz.func88, Tryz.ntmps88
  go_wp2
  go_loop [3] (fun i => ∃ k : Nat, k ≤ l.length ∧ i = .int .i64 k ∧ ∀ t, k ≤ t → l.getD t 0 = 0) (fun i => (intOf i).toNat)
  case atStart => exact ⟨l.length, Nat.le_refl _, rfl, fun t ht => by simp [List.getElem?_eq_none ht]⟩
  case round =>
    obtain ⟨k, hk, rfl, h0⟩ := hrel
    by_cases hp : 0 < k
    · rcases hs with ⟨_, rfl⟩ | ⟨b, o, rfl, hb, hcell⟩
      · simp at hk; omega
      · have hcl := hcell (k - 1) (by omega)
        go_wp2
        · have he : l.getD (k - 1) 0 = 0 := by
            have h : ((l[k - 1]?.getD 0 : Nat) : Int) = 0 := eq_of_beq (by assumption)
            simp only [List.getD_eq_getElem?_getD]; omega
          go_round
          case rel => exact ⟨k - 1, by omega, by go_num, fun t ht => by
            by_cases e : t = k - 1
            · rw [e]; exact he
            · exact h0 t (by omega)⟩
          case measure => simp [intOf]; omega
        · have he : l.getD (k - 1) 0 ≠ 0 := by
            have h : ¬ ((l[k - 1]?.getD 0 : Nat) : Int) = 0 := ne_of_beq_false (by assumption)
            simp only [List.getD_eq_getElem?_getD]; omega
          have hn : k = nlen l := (nlen_of_last l k hk h0 (Or.inr he)).symm
          go_ret
          exact ⟨by rw [← hn]; rfl, rfl⟩
    · obtain rfl : k = 0 := by omega
      have hn : 0 = nlen l := (nlen_of_last l 0 hk h0 (Or.inl rfl)).symm
      go_wp2
      go_ret
      exact ⟨by rw [← hn]; rfl, rfl⟩

theorem trim_n (ao : Option Addr) (l : List Nat) (n c : Nat) (w : World) (hn : l.length = n) (hc : n ≤ c) (hm : c ≤ maxLen) (hs : Seg w ao l) :
    Calls Tryz.prog 88 #[.slice ao n c] w fun e w' => e = .returned (.slice ao (nlen l) (nlen l)) ∧ w = w' := by
  subst hn; exact trim_any ao l c w hc hm hs

end Go.Proofs.YtdiojbgbeeojkaaGreatDoor
