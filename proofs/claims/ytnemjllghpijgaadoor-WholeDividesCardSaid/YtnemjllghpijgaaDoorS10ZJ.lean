/-
  The reference's reading: word, digitsOf. The reference's numbers: zsign, dcmp. The reference's numbers: dadd. The reference's reading: zread's two loops. The reference's reading: ZParse.
-/
import Derived.Test.YtnemjllghpijgaaDoorProg
import Derived.Test.YtnemjllghpijgaaDoorRows
import Derived.BigQuiet
import Derived.Deep.Cut
import Derived.Deep.QuietTactic
import Derived.Deep.RegionHeld3
import Derived.Laws.Bits64b
import Derived.Laws.CopyOwn
import Derived.Laws.ResultCell
import Derived.Lib.BitFns
import Derived.Lib.Hide
import Derived.Lib.ItoaNum
import Derived.Lib.Strings
import Derived.OwnWalk
import Derived.Shelf.Bits.Mul64
import Derived.Shelf.LaysM
import Derived.Shelf.Small.Bits
import Derived.Shelf.Small.Wraps
import Derived.Shelf.Spec.BitsCarry
import Derived.Shelf.Spec.TrailingZeros
import Derived.Shelf.Strconv.Itoa0
import Derived.Shelf.Strconv.Itoa1
import Derived.Shelf.Strconv.Itoa2
import Derived.Shelf.Strconv.Itoa3
import Derived.WalkKit
import Derived.WalkLawsBesides
import Derived.WalkSpells
import Derived.Test.YtnemjllghpijgaaDoorS00Mem
import Derived.Test.YtnemjllghpijgaaDoorShelf
import Derived.Test.YtnemjllghpijgaaDoorS02ShiftI
import Derived.Test.YtnemjllghpijgaaDoorS03GuessD
import Derived.Test.YtnemjllghpijgaaDoorS04IntB
import Derived.Test.YtnemjllghpijgaaDoorS05IntD
import Derived.Test.YtnemjllghpijgaaDoorS06ParE
import Derived.Test.YtnemjllghpijgaaDoorS09ZA
namespace Go.Proofs.YtnemjllghpijgaaDoor
open Go.RowKit

theorem dcount_drop (l : List Nat) (g k : Nat) (h1 : g ≤ k) (h2 : k ≤ l.length) (h : ∀ t, g ≤ t → t < k → isD (l.getD t 0) = true) (h3 : k = l.length ∨ isD (l.getD k 0) = false) : dcount (l.drop g) = k - g := by
  refine dcount_of (l.drop g) (k - g) (by rw [List.length_drop]; omega) (fun t ht => ?_) ?_
  · rw [drop_getD]; exact h (g + t) (by omega) (by omega)
  · rcases h3 with h3 | h3
    · left; rw [List.length_drop, h3]
    · right; rw [drop_getD, show g + (k - g) = k by omega]; exact h3

theorem scan_sign_nought (l : List Nat) (h : l.getD 0 0 = 45) (h0 : l.getD 1 0 = 48) : scanN l = (1, false) := by
  unfold scanN
  have hs : sgl l = 1 := by unfold sgl; rw [if_pos h]
  rw [if_neg (by rw [h]; simp), hs]
  have : spos (l.drop 1) = 0 := by
    unfold spos
    rw [if_pos (Or.inr (by rw [drop_getD]; exact h0))]
  rw [this]; rfl

theorem scan_digits (l : List Nat) (k : Nat) (hg : sgl l ≤ k) (hk : k ≤ l.length) (h0 : ¬ (sgl l < l.length ∧ l.getD (sgl l) 0 = 48)) (h : ∀ t, sgl l ≤ t → t < k → isD (l.getD t 0) = true) (h3 : k = l.length ∨ isD (l.getD k 0) = false) : scanN l = (k, decide (sgl l < k)) := by
  have hne : ¬ (0 < l.length ∧ l.getD 0 0 = 48) := by
    rintro ⟨q1, q2⟩
    apply h0
    have : sgl l = 0 := by unfold sgl; rw [if_neg (by omega)]
    rw [this]; exact ⟨q1, q2⟩
  unfold scanN
  rw [if_neg hne]
  have hsp : spos (l.drop (sgl l)) = k - sgl l := by
    unfold spos
    by_cases hc : (l.drop (sgl l)).length = 0 ∨ (l.drop (sgl l)).getD 0 0 = 48
    · rw [if_pos hc]
      rcases hc with hc | hc
      · rw [List.length_drop] at hc; omega
      · rw [drop_getD, Nat.add_zero] at hc
        have hlen : ¬ sgl l < l.length := fun q => h0 ⟨q, hc⟩
        omega
    · rw [if_neg hc]; exact dcount_drop l (sgl l) k hg hk h h3
  rw [hsp]
  have e1 : sgl l + (k - sgl l) = k := by omega
  rw [e1]
  congr 1
  rw [decide_eq_decide]
  omega

theorem scan_nought (l : List Nat) (h1 : 0 < l.length) (h : l.getD 0 0 = 48) : scanN l = (1, true) := by unfold scanN; rw [if_pos ⟨h1, h⟩]

set_option maxHeartbeats 1000000 in
set_option maxRecDepth 100000 in
theorem digitsOf_any (s : ByteArray) (w : World) (hs : s.size ≤ 9223372036854775807) :
    Calls Tryd.prog 19 #[.string s] w fun e w' => e = .returned (.int .i64 ((s.size - sgl (bs s) : Nat))) ∧ w = w' := by
  by_cases h0 : s.size = 0
  · have e := bs_nil s h0
    subst e
    go_enter Tryd.func19, Tryd.ntmps19
    go_wp2
    go_ret
    exact ⟨rfl, rfl⟩
  · have hp : 0 < s.size := by omega
    have hat := bs_at s 0 hp
    have ip : (0 : Int) < (s.size : Int) := by omega
    by_cases h45 : (bs s).getD 0 0 = 45
    · have hb : ((s[0].toNat : Int) == 45) = true := by rw [beq_iff_eq, hat]; omega
      have Hg : Hid (sgl (bs s) = 1) := by show _ = _; unfold sgl; rw [if_pos h45]
      clear hat h45 h0
      go_enter Tryd.func19, Tryd.ntmps19
      go_wp2
      go_ret
      have e : ((s.size - 1 : Nat) : Int) = (s.size : Int) - 1 := by omega
      exact ⟨by rw [Hg.out, e]; rfl, rfl⟩
    · have hb : ((s[0].toNat : Int) == 45) = false := by rw [beq_eq_false_iff_ne, hat]; omega
      have Hg : Hid (sgl (bs s) = 0) := by show _ = _; unfold sgl; rw [if_neg h45]
      clear hat h45 h0
      go_enter Tryd.func19, Tryd.ntmps19
      go_wp2
      go_ret
      exact ⟨by rw [Hg.out]; rfl, rfl⟩

set_option maxHeartbeats 1000000 in
set_option maxRecDepth 100000 in
theorem word_any (s : ByteArray) (w : World) (hs : s.size ≤ 9223372036854775807) :
    Calls Tryd.prog 18 #[.string s, .bool true, .bool true] w fun e w' => e = .returned (.tuple #[.int .i64 ((scanN (bs s)).1 : Nat), .bool (scanN (bs s)).2]) ∧ w = w' := by
  by_cases h0 : s.size = 0
  · have e := bs_nil s h0
    subst e
    have hsc : scanN (bs ⟨#[]⟩) = (0, false) := by decide
    rw [hsc]
    clear hsc
    go_enter Tryd.func18, Tryd.ntmps18
    go_wp2
    go_loop [9] (fun i => i = .int .i64 0) (fun _ => 0)
    case atStart => rfl
    case round =>
      subst hrel
      go_wp2
      go_ret2
      exact ⟨rfl, rfl⟩
  · have hp : 0 < s.size := by omega
    have ip : (0 : Int) < (s.size : Int) := by omega
    have hat := bs_at s 0 hp
    have hlen := bs_length s
    by_cases h45 : (bs s).getD 0 0 = 45
    · have hb : ((s[0].toNat : Int) == 45) = true := by rw [beq_iff_eq, hat]; omega
      have hsg : sgl (bs s) = 1 := by unfold sgl; rw [if_pos h45]
      by_cases h48 : 1 < s.size ∧ (bs s).getD 1 0 = 48
      · obtain ⟨h1, h2⟩ := h48
        have i1 : (1 : Int) < (s.size : Int) := by omega
        have hb1 : ((s[1].toNat : Int) == 48) = true := by rw [beq_iff_eq, bs_at s 1 h1]; omega
        have hsc := scan_sign_nought _ h45 h2
        rw [hsc]
        clear hat h45 h2 hsc hsg hlen
        go_enter Tryd.func18, Tryd.ntmps18
        go_wp2
        go_ret2
        exact ⟨rfl, rfl⟩
      · have Hscan : Hid (∀ k, 1 ≤ k → k ≤ s.size → (∀ t, 1 ≤ t → t < k → isD ((bs s).getD t 0) = true) → (k = (bs s).length ∨ isD ((bs s).getD k 0) = false) → scanN (bs s) = (k, decide (1 < k))) := by
          intro k q1 q2 q3 q4
          have := scan_digits (bs s) k (by rw [hsg]; exact q1) (by rw [hlen]; exact q2) (by rw [hsg, hlen]; exact h48) (by rw [hsg]; exact q3) q4
          rwa [hsg] at this
        have hcase : (¬ (1 : Int) < (s.size : Int)) ∨ (∃ h1 : 1 < s.size, ((s[1].toNat : Int) == 48) = false) := by
          by_cases h1 : 1 < s.size
          · right; refine ⟨h1, ?_⟩
            rw [beq_eq_false_iff_ne, bs_at s 1 h1]
            intro hc; exact h48 ⟨h1, by omega⟩
          · left; omega
        clear hat h45 h48 hsg hlen
        rcases hcase with i1 | ⟨h1, hb1⟩
        · go_enter Tryd.func18, Tryd.ntmps18
          go_wp2
          go_loop [9] (fun i => ∃ k : Nat, 1 ≤ k ∧ k ≤ s.size ∧ i = .int .i64 k ∧ ∀ t, 1 ≤ t → t < k → isD ((bs s).getD t 0) = true) (fun i => s.size - (intOf i).toNat)
          case atStart => exact ⟨1, Nat.le_refl _, by omega, rfl, fun t h1 h2 => by omega⟩
          case round =>
            obtain ⟨k, hgk, hk, rfl, hall⟩ := hrel
            have Hall := Lib.hid hall
            clear hall
            by_cases hlt : k < s.size
            · have hat := bs_at s k hlt
              have ik : (k : Int) < (s.size : Int) := by omega
              by_cases hdg : isD ((bs s).getD k 0) = true
              · have hr : (48 : Int) ≤ (s[k].toNat : Int) ∧ (s[k].toNat : Int) ≤ 57 := by
                  simp only [isD, decide_eq_true_eq] at hdg; rw [hat]; omega
                obtain ⟨g1, g2⟩ := hr
                have Hdg := Lib.hid hdg
                clear hat hdg
                go_wp2
                have hall := Hall.out
                go_round
                case rel => exact ⟨k + 1, by omega, by omega, by go_num, fun t h1 h2 => by
                  by_cases e : t = k
                  · rw [e]; exact Hdg.out
                  · exact hall t h1 (by omega)⟩
                case measure => simp [intOf]; omega
              · have Hsc := Lib.hid (Hscan.out k hgk hk Hall.out (Or.inr (by simpa using hdg)))
                by_cases hlo : 48 ≤ s[k].toNat
                · have g1 : (48 : Int) ≤ (s[k].toNat : Int) := by omega
                  have g2 : ¬ (s[k].toNat : Int) ≤ 57 := by
                    simp only [isD, decide_eq_true_eq] at hdg; rw [hat] at hlo ⊢; omega
                  clear hat hdg hlo
                  go_wp2
                  go_ret2
                  refine ⟨?_, rfl⟩
                  rw [Hsc.out]
                  have ed : decide ((1 : Int) < ((k : Nat) : Int)) = decide (1 < k) := by rw [decide_eq_decide]; omega
                  first | (show Ending.returned (.tuple #[.int .i64 ((k : Nat) : Int), .bool (decide ((1 : Int) < ((k : Nat) : Int)))]) = .returned (.tuple #[.int .i64 ((k : Nat) : Int), .bool (decide (1 < k))]); rw [ed]) | rfl
                · have g1 : ¬ (48 : Int) ≤ (s[k].toNat : Int) := by omega
                  clear hat hdg hlo
                  go_wp2
                  go_ret2
                  refine ⟨?_, rfl⟩
                  rw [Hsc.out]
                  have ed : decide ((1 : Int) < ((k : Nat) : Int)) = decide (1 < k) := by rw [decide_eq_decide]; omega
                  first | (show Ending.returned (.tuple #[.int .i64 ((k : Nat) : Int), .bool (decide ((1 : Int) < ((k : Nat) : Int)))]) = .returned (.tuple #[.int .i64 ((k : Nat) : Int), .bool (decide (1 < k))]); rw [ed]) | rfl
            · obtain rfl : k = s.size := by omega
              have Hsc := Lib.hid (Hscan.out _ hgk hk Hall.out (Or.inl (bs_length s).symm))
              have ik : ¬ (s.size : Int) < (s.size : Int) := by omega
              go_wp2
              go_ret2
              refine ⟨?_, rfl⟩
              rw [Hsc.out]
              have ed : decide ((1 : Int) < ((s.size : Nat) : Int)) = decide (1 < s.size) := by rw [decide_eq_decide]; omega
              first | (show Ending.returned (.tuple #[.int .i64 ((s.size : Nat) : Int), .bool (decide ((1 : Int) < ((s.size : Nat) : Int)))]) = .returned (.tuple #[.int .i64 ((s.size : Nat) : Int), .bool (decide (1 < s.size))]); rw [ed]) | (rw [decide_eq_true (by omega)]; rfl)
        · have i1 : (1 : Int) < (s.size : Int) := by omega
          go_enter Tryd.func18, Tryd.ntmps18
          go_wp2
          go_loop [9] (fun i => ∃ k : Nat, 1 ≤ k ∧ k ≤ s.size ∧ i = .int .i64 k ∧ ∀ t, 1 ≤ t → t < k → isD ((bs s).getD t 0) = true) (fun i => s.size - (intOf i).toNat)
          case atStart => exact ⟨1, Nat.le_refl _, by omega, rfl, fun t h1 h2 => by omega⟩
          case round =>
            obtain ⟨k, hgk, hk, rfl, hall⟩ := hrel
            have Hall := Lib.hid hall
            clear hall
            by_cases hlt : k < s.size
            · have hat := bs_at s k hlt
              have ik : (k : Int) < (s.size : Int) := by omega
              by_cases hdg : isD ((bs s).getD k 0) = true
              · have hr : (48 : Int) ≤ (s[k].toNat : Int) ∧ (s[k].toNat : Int) ≤ 57 := by
                  simp only [isD, decide_eq_true_eq] at hdg; rw [hat]; omega
                obtain ⟨g1, g2⟩ := hr
                have Hdg := Lib.hid hdg
                clear hat hdg
                go_wp2
                have hall := Hall.out
                go_round
                case rel => exact ⟨k + 1, by omega, by omega, by go_num, fun t h1 h2 => by
                  by_cases e : t = k
                  · rw [e]; exact Hdg.out
                  · exact hall t h1 (by omega)⟩
                case measure => simp [intOf]; omega
              · have Hsc := Lib.hid (Hscan.out k hgk hk Hall.out (Or.inr (by simpa using hdg)))
                by_cases hlo : 48 ≤ s[k].toNat
                · have g1 : (48 : Int) ≤ (s[k].toNat : Int) := by omega
                  have g2 : ¬ (s[k].toNat : Int) ≤ 57 := by
                    simp only [isD, decide_eq_true_eq] at hdg; rw [hat] at hlo ⊢; omega
                  clear hat hdg hlo
                  go_wp2
                  go_ret2
                  refine ⟨?_, rfl⟩
                  rw [Hsc.out]
                  have ed : decide ((1 : Int) < ((k : Nat) : Int)) = decide (1 < k) := by rw [decide_eq_decide]; omega
                  first | (show Ending.returned (.tuple #[.int .i64 ((k : Nat) : Int), .bool (decide ((1 : Int) < ((k : Nat) : Int)))]) = .returned (.tuple #[.int .i64 ((k : Nat) : Int), .bool (decide (1 < k))]); rw [ed]) | rfl
                · have g1 : ¬ (48 : Int) ≤ (s[k].toNat : Int) := by omega
                  clear hat hdg hlo
                  go_wp2
                  go_ret2
                  refine ⟨?_, rfl⟩
                  rw [Hsc.out]
                  have ed : decide ((1 : Int) < ((k : Nat) : Int)) = decide (1 < k) := by rw [decide_eq_decide]; omega
                  first | (show Ending.returned (.tuple #[.int .i64 ((k : Nat) : Int), .bool (decide ((1 : Int) < ((k : Nat) : Int)))]) = .returned (.tuple #[.int .i64 ((k : Nat) : Int), .bool (decide (1 < k))]); rw [ed]) | rfl
            · obtain rfl : k = s.size := by omega
              have Hsc := Lib.hid (Hscan.out _ hgk hk Hall.out (Or.inl (bs_length s).symm))
              have ik : ¬ (s.size : Int) < (s.size : Int) := by omega
              go_wp2
              go_ret2
              refine ⟨?_, rfl⟩
              rw [Hsc.out]
              have ed : decide ((1 : Int) < ((s.size : Nat) : Int)) = decide (1 < s.size) := by rw [decide_eq_decide]; omega
              first | (show Ending.returned (.tuple #[.int .i64 ((s.size : Nat) : Int), .bool (decide ((1 : Int) < ((s.size : Nat) : Int)))]) = .returned (.tuple #[.int .i64 ((s.size : Nat) : Int), .bool (decide (1 < s.size))]); rw [ed]) | (rw [decide_eq_true (by omega)]; rfl)
    · have hb : ((s[0].toNat : Int) == 45) = false := by rw [beq_eq_false_iff_ne, hat]; omega
      have hsg : sgl (bs s) = 0 := by unfold sgl; rw [if_neg h45]
      by_cases h48 : (bs s).getD 0 0 = 48
      · have hb1 : ((s[0].toNat : Int) == 48) = true := by rw [beq_iff_eq, hat]; omega
        have hsc := scan_nought (bs s) (by omega) h48
        rw [hsc]
        clear hat h45 h48 hsc hsg hlen
        go_enter Tryd.func18, Tryd.ntmps18
        go_wp2
        go_ret2
        exact ⟨rfl, rfl⟩
      · have hb1 : ((s[0].toNat : Int) == 48) = false := by rw [beq_eq_false_iff_ne, hat]; omega
        have Hscan : Hid (∀ k, 0 ≤ k → k ≤ s.size → (∀ t, 0 ≤ t → t < k → isD ((bs s).getD t 0) = true) → (k = (bs s).length ∨ isD ((bs s).getD k 0) = false) → scanN (bs s) = (k, decide (0 < k))) := by
          intro k q1 q2 q3 q4
          have := scan_digits (bs s) k (by rw [hsg]; exact q1) (by rw [hlen]; exact q2) (by rw [hsg]; exact fun h => h48 h.2) (by rw [hsg]; exact q3) q4
          rwa [hsg] at this
        clear hat h45 h48 hsg hlen
        go_enter Tryd.func18, Tryd.ntmps18
        go_wp2
        go_loop [9] (fun i => ∃ k : Nat, 0 ≤ k ∧ k ≤ s.size ∧ i = .int .i64 k ∧ ∀ t, 0 ≤ t → t < k → isD ((bs s).getD t 0) = true) (fun i => s.size - (intOf i).toNat)
        case atStart => exact ⟨0, Nat.le_refl _, by omega, rfl, fun t h1 h2 => by omega⟩
        case round =>
          obtain ⟨k, hgk, hk, rfl, hall⟩ := hrel
          have Hall := Lib.hid hall
          clear hall
          by_cases hlt : k < s.size
          · have hat := bs_at s k hlt
            have ik : (k : Int) < (s.size : Int) := by omega
            by_cases hdg : isD ((bs s).getD k 0) = true
            · have hr : (48 : Int) ≤ (s[k].toNat : Int) ∧ (s[k].toNat : Int) ≤ 57 := by
                simp only [isD, decide_eq_true_eq] at hdg; rw [hat]; omega
              obtain ⟨g1, g2⟩ := hr
              have Hdg := Lib.hid hdg
              clear hat hdg
              go_wp2
              have hall := Hall.out
              go_round
              case rel => exact ⟨k + 1, by omega, by omega, by go_num, fun t h1 h2 => by
                by_cases e : t = k
                · rw [e]; exact Hdg.out
                · exact hall t h1 (by omega)⟩
              case measure => simp [intOf]; omega
            · have Hsc := Lib.hid (Hscan.out k hgk hk Hall.out (Or.inr (by simpa using hdg)))
              by_cases hlo : 48 ≤ s[k].toNat
              · have g1 : (48 : Int) ≤ (s[k].toNat : Int) := by omega
                have g2 : ¬ (s[k].toNat : Int) ≤ 57 := by
                  simp only [isD, decide_eq_true_eq] at hdg; rw [hat] at hlo ⊢; omega
                clear hat hdg hlo
                go_wp2
                go_ret2
                refine ⟨?_, rfl⟩
                rw [Hsc.out]
                have ed : decide ((0 : Int) < ((k : Nat) : Int)) = decide (0 < k) := by rw [decide_eq_decide]; omega
                first | (show Ending.returned (.tuple #[.int .i64 ((k : Nat) : Int), .bool (decide ((0 : Int) < ((k : Nat) : Int)))]) = .returned (.tuple #[.int .i64 ((k : Nat) : Int), .bool (decide (0 < k))]); rw [ed]) | rfl
              · have g1 : ¬ (48 : Int) ≤ (s[k].toNat : Int) := by omega
                clear hat hdg hlo
                go_wp2
                go_ret2
                refine ⟨?_, rfl⟩
                rw [Hsc.out]
                have ed : decide ((0 : Int) < ((k : Nat) : Int)) = decide (0 < k) := by rw [decide_eq_decide]; omega
                first | (show Ending.returned (.tuple #[.int .i64 ((k : Nat) : Int), .bool (decide ((0 : Int) < ((k : Nat) : Int)))]) = .returned (.tuple #[.int .i64 ((k : Nat) : Int), .bool (decide (0 < k))]); rw [ed]) | rfl
          · obtain rfl : k = s.size := by omega
            have Hsc := Lib.hid (Hscan.out _ hgk hk Hall.out (Or.inl (bs_length s).symm))
            have ik : ¬ (s.size : Int) < (s.size : Int) := by omega
            go_wp2
            go_ret2
            refine ⟨?_, rfl⟩
            rw [Hsc.out]
            have ed : decide ((0 : Int) < ((s.size : Nat) : Int)) = decide (0 < s.size) := by rw [decide_eq_decide]; omega
            first | (show Ending.returned (.tuple #[.int .i64 ((s.size : Nat) : Int), .bool (decide ((0 : Int) < ((s.size : Nat) : Int)))]) = .returned (.tuple #[.int .i64 ((s.size : Nat) : Int), .bool (decide (0 < s.size))]); rw [ed]) | (rw [decide_eq_true (by omega)]; rfl)

end Go.Proofs.YtnemjllghpijgaaDoor
namespace Go.Proofs.YtnemjllghpijgaaDoor
open Go.RowKit

theorem zext_drewN {w w' : World} (h : Ext w w') (n : Nat) : Ext w (w'.drewN n) := by
  induction n with
  | zero => exact h
  | succ n ih => exact Below.drew ih

/-- How two numbers stand to each other. -/
def zc (x y : Nat) : Int := if x < y then -1 else if y < x then 1 else 0

/-- Digits whose upper part is the same. -/
theorem zval_split (l : List Nat) (k : Nat) (h : k < l.length) : zval l = zval (l.take k) + 10000 ^ k * (l.getD k 0 + 10000 * zval (l.drop (k + 1))) := by
  have e : l = l.take k ++ (l.getD k 0 :: l.drop (k + 1)) := by
    rw [List.getD_eq_getElem?_getD, List.getElem?_eq_getElem h]
    simp
  have hl : (l.take k).length = k := by rw [List.length_take]; omega
  conv => lhs; rw [e]
  rw [zval_append, hl, zval]

theorem zval_lt_of {a b : List Nat} {k : Nat} (ha : k < a.length) (hb : k < b.length) (hd : ZD a) (h : a.drop (k + 1) = b.drop (k + 1)) (hx : a.getD k 0 < b.getD k 0) : zval a < zval b := by
  rw [zval_split a k ha, zval_split b k hb, h]
  have h1 := zval_lt (hd.take k)
  have hl : (a.take k).length = k := by rw [List.length_take]; omega
  rw [hl] at h1
  generalize 10000 * zval (b.drop (k + 1)) = u
  have h2 : 10000 ^ k * (a.getD k 0 + u + 1) ≤ 10000 ^ k * (b.getD k 0 + u) := Nat.mul_le_mul_left _ (by omega)
  rw [Nat.mul_add, Nat.mul_one] at h2
  omega

theorem zval_ge {l : List Nat} (h : ZN l) (hl : l ≠ []) : 10000 ^ (l.length - 1) ≤ zval l := by
  have hpos : 0 < l.length := by cases l with | nil => exact absurd rfl hl | cons x r => simp
  have hx := h.resolve_left hl
  rw [zval_split l (l.length - 1) (by omega)]
  have h1 : 1 ≤ l.getD (l.length - 1) 0 + 10000 * zval (l.drop (l.length - 1 + 1)) := by omega
  have h2 := Nat.mul_le_mul_left (10000 ^ (l.length - 1)) h1
  rw [Nat.mul_one] at h2
  omega

theorem zval_lt_len {a b : List Nat} (hd : ZD a) (hn : ZN b) (h : a.length < b.length) : zval a < zval b := by
  have h1 := zval_lt hd
  have hb : b ≠ [] := by intro e; subst e; simp at h
  have h2 := zval_ge hn hb
  have h3 : 10000 ^ a.length ≤ 10000 ^ (b.length - 1) := Nat.pow_le_pow_right (by decide) (by omega)
  omega

theorem zval_zero {l : List Nat} (hn : ZN l) : zval l = 0 ↔ l = [] := by
  constructor
  · intro h
    apply Decidable.byContradiction
    intro hl
    have h2 := zval_ge hn hl
    have h3 : 0 < 10000 ^ (l.length - 1) := Nat.pow_pos (by decide)
    omega
  · rintro rfl; rfl

set_option maxHeartbeats 1000000 in
set_option maxRecDepth 100000 in
theorem zsign_any (neg : Bool) (ao : Option Addr) (n c : Nat) (z : Int) (w : World) (h : IsZ w neg ao n c z) (k : Int) (hk : k = if z < 0 then -1 else if 0 < z then 1 else 0) :
    Calls Tryd.prog 53 #[.agg #[.bool neg, .slice ao n c]] w fun e w' => e = .returned (.int .i64 k) ∧ Ext w w' := by
  obtain ⟨l, h1, h2, h3, h4, h5, h6, h7, h8⟩ := h
  have hE := ext_alloc w (.cells #[.bool neg, .slice ao n c] 31)
  by_cases h0 : n = 0
  · have hl : l = [] := List.eq_nil_of_length_eq_zero (by omega)
    have hz : z = 0 := by rw [h7, hl]; simp [zval]
    have hk0 : k = 0 := by rw [hk, hz]; decide
    subst h0 hk0
    clear hk h7
    go_enter Tryd.func53, Tryd.ntmps53
    go_wp2
    go_ret
    exact ⟨rfl, ext_alloc _ _⟩
  · have hl : l ≠ [] := by intro e; subst e; simp at h1; omega
    have hv : 0 < zval l := by
      apply Nat.pos_of_ne_zero
      intro e; exact hl ((zval_zero h6).1 e)
    have hb : ((n : Int) == 0) = false := by rw [beq_eq_false_iff_ne]; omega
    cases neg
    · have hk1 : k = 1 := by rw [hk, h7]; simp; omega
      subst hk1
      clear hk h7 h0
      go_enter Tryd.func53, Tryd.ntmps53
      go_wp2
      go_ret
      exact ⟨rfl, hE⟩
    · have hk1 : k = -1 := by rw [hk, h7]; simp; omega
      subst hk1
      clear hk h7 h0
      go_enter Tryd.func53, Tryd.ntmps53
      go_wp2
      go_ret
      exact ⟨rfl, hE⟩

set_option maxHeartbeats 1000000 in
set_option maxRecDepth 100000 in
theorem dcmp_any (a1 a2 : Option Addr) (la lb : List Nat) (n m c1 c2 : Nat) (w : World) (h1 : la.length = n) (h2 : lb.length = m) (s1 : ISeg w a1 la) (s2 : ISeg w a2 lb) (d1 : ZD la) (d2 : ZD lb) (e1 : ZN la) (e2 : ZN lb) (_hc1 : n ≤ c1) (_hc2 : m ≤ c2) (hn : n ≤ 1000000) (hm : m ≤ 1000000) :
    Calls Tryd.prog 28 #[.slice a1 n c1, .slice a2 m c2] w fun e w' => e = .returned (.int .i64 (zc (zval la) (zval lb))) ∧ Ext w w' := by
  obtain ⟨z, hz⟩ : ∃ z, zc (zval la) (zval lb) = z := ⟨_, rfl⟩
  rw [hz]
  have Hz := Lib.hid hz
  clear hz
  by_cases hnm : n = m
  · subst hnm
    have H1 := Lib.hid h1; have H2 := Lib.hid h2; have S1 := Lib.hid s1; have S2 := Lib.hid s2; have D1 := Lib.hid d1; have D2 := Lib.hid d2
    clear h1 h2 d1 d2 e1 e2
    have hab : n = 0 ∨ ∃ b o b' o', a1 = some ⟨b, o, none⟩ ∧ a2 = some ⟨b', o', none⟩ := by
      by_cases h0 : n = 0
      · exact Or.inl h0
      · obtain ⟨b, o, h⟩ := s1.some_of (by rw [H1.out]; omega)
        obtain ⟨b', o', h'⟩ := s2.some_of (by rw [H2.out]; omega)
        exact Or.inr ⟨b, o, b', o', h, h'⟩
    clear s1 s2
    go_enter Tryd.func28, Tryd.ntmps28
    go_wp2_with fail
    go_loopw [5] (fun i wr => ∃ k : Nat, k ≤ n ∧ i = .int .i64 ((k : Int) - 1) ∧ la.drop k = lb.drop k ∧ Ext w wr) (fun i _ => (intOf i + 1).toNat)
    case atStart => exact ⟨n, Nat.le_refl _, by go_num, by rw [List.drop_of_length_le (by rw [H1.out]; exact Nat.le_refl _), List.drop_of_length_le (by rw [H2.out]; exact Nat.le_refl _)], Ext.refl _⟩
    case round =>
      obtain ⟨k, hk, rfl, hsame, hEr⟩ := hrel
      have Hsame := Lib.hid hsame
      clear hsame
      by_cases hk0 : k = 0
      · subst hk0
        have hz0 : z = 0 := by
          rw [← Hz.out]
          have : la = lb := by simpa using Hsame.out
          rw [this]; unfold zc; simp
        subst hz0
        go_wp2_with fail
        go_ret
        exact ⟨rfl, hEr⟩
      · obtain ⟨j, rfl⟩ : ∃ j, k = j + 1 := ⟨k - 1, by omega⟩
        rcases hab with h0 | ⟨b, o, b', o', rfl, rfl⟩
        · omega
        have hx := (S1.out.ext hEr).at j (by rw [H1.out]; omega); have hy := (S2.out.ext hEr).at j (by rw [H2.out]; omega)
        obtain ⟨x, ex⟩ : ∃ x, la.getD j 0 = x := ⟨_, rfl⟩
        obtain ⟨y, ey⟩ : ∃ y, lb.getD j 0 = y := ⟨_, rfl⟩
        rw [ex] at hx; rw [ey] at hy
        have Ex := Lib.hid ex; have Ey := Lib.hid ey
        have ij : (j : Int) < (n : Int) := by omega
        have ij0 : (0 : Int) ≤ (j : Int) := by omega
        have ej : ((j : Int) + 1 - 1) = (j : Int) := by omega
        have ec : (((j + 1 : Nat) : Int) - 1) = (j : Int) := by omega
        rw [ec]
        clear ex ey hk0 ec
        rcases Nat.lt_trichotomy x y with hlt | heq | hgt
        · have ixy : (x : Int) < (y : Int) := by omega
          have hz1 : z = -1 := by
            rw [← Hz.out]; unfold zc
            rw [if_pos (zval_lt_of (k := j) (by rw [H1.out]; omega) (by rw [H2.out]; omega) D1.out Hsame.out (by rw [Ex.out, Ey.out]; exact hlt))]
          subst hz1
          clear hlt
          go_wp2_with fail
          go_quiet (fail)
          go_wp2_with fail
          go_ret
          exact ⟨rfl, zext_drewN hEr _⟩
        · subst heq
          have ixy : ¬ (x : Int) < (x : Int) := by omega
          have hnext : la.drop j = lb.drop j := by
            have f1 : la.drop j = la.getD j 0 :: la.drop (j + 1) := by
              rw [List.getD_eq_getElem?_getD, List.getElem?_eq_getElem (by rw [H1.out]; omega), List.drop_eq_getElem_cons (by rw [H1.out]; omega)]; rfl
            have f2 : lb.drop j = lb.getD j 0 :: lb.drop (j + 1) := by
              rw [List.getD_eq_getElem?_getD, List.getElem?_eq_getElem (by rw [H2.out]; omega), List.drop_eq_getElem_cons (by rw [H2.out]; omega)]; rfl
            rw [f1, f2, Ex.out, Ey.out, Hsame.out]
          have Hnext := Lib.hid hnext
          clear hnext
          go_wp2_with fail
          go_quiet (fail)
          go_wp2_with fail
          go_quiet (fail)
          go_wp2_with fail
          go_roundw
          case rel => exact ⟨j, by omega, by go_num, Hnext.out, zext_drewN hEr _⟩
          case measure => simp [intOf]
        · have ixy : ¬ (x : Int) < (y : Int) := by omega
          have iyx : (y : Int) < (x : Int) := by omega
          have hz1 : z = 1 := by
            rw [← Hz.out]; unfold zc
            have := zval_lt_of (k := j) (by rw [H2.out]; omega) (by rw [H1.out]; omega) D2.out Hsame.out.symm (by rw [Ex.out, Ey.out]; exact hgt)
            rw [if_neg (by omega), if_pos this]
          subst hz1
          clear hgt
          go_wp2_with fail
          go_quiet (fail)
          go_wp2_with fail
          go_quiet (fail)
          go_wp2_with fail
          go_ret
          exact ⟨rfl, zext_drewN (zext_drewN hEr _) _⟩
  · by_cases hlt : n < m
    · have hz1 : z = -1 := by
        rw [← Hz.out]; unfold zc
        rw [if_pos (zval_lt_len d1 e2 (by omega))]
      subst hz1
      have ib : ((n : Int) != (m : Int)) = true := by rw [bne_iff_ne]; omega
      have il : (n : Int) < (m : Int) := by omega
      clear h1 h2 s1 s2 d1 d2 e1 e2 hnm hlt
      go_enter Tryd.func28, Tryd.ntmps28
      go_wp2_with fail
      go_ret
      exact ⟨rfl, Ext.refl _⟩
    · have hz1 : z = 1 := by
        rw [← Hz.out]; unfold zc
        have := zval_lt_len d2 e1 (a := lb) (b := la) (by omega)
        rw [if_neg (by omega), if_pos this]
      subst hz1
      have ib : ((n : Int) != (m : Int)) = true := by rw [bne_iff_ne]; omega
      have il : ¬ (n : Int) < (m : Int) := by omega
      clear h1 h2 s1 s2 d1 d2 e1 e2 hnm hlt
      go_enter Tryd.func28, Tryd.ntmps28
      go_wp2_with fail
      go_ret
      exact ⟨rfl, Ext.refl _⟩

end Go.Proofs.YtnemjllghpijgaaDoor
namespace Go.Proofs.YtnemjllghpijgaaDoor
open Go.RowKit

theorem int_info : (Tryd.prog.info? 3).map (fun i => (i.zero, i.size, i.bytes)) = some (some (.int .i64 0), 1, 8) := by kernel_rfl

/-- Digits as cells. -/
def inC (l : List Nat) : List Value := l.map fun x : Nat => Value.int .i64 (x : Int)
theorem inC_snoc (l : List Nat) (x : Nat) : inC (l ++ [x]) = inC l ++ [.int .i64 (x : Int)] := by simp [inC]

theorem iseg_of_own {w : World} {base n : Nat} {v : Value} {l : List Nat} (h : w.ownsRow base 3 1 v n (inC l)) : ∃ (a : Option Addr) (c : Nat), v = .slice a n c ∧ n ≤ c ∧ c ≤ maxLen ∧ l.length = n ∧ ISeg w a l := by
  have hl : l.length = n := by have := h.1; simpa [inC] using this
  rcases h.2 with ⟨rfl, rfl⟩ | ⟨g, cap, cur, rfl, _, hg, hnc, hcm, _, htk⟩
  · exact ⟨none, 0, rfl, Nat.le_refl _, Nat.zero_le _, hl, Or.inl ⟨rfl, List.eq_nil_of_length_eq_zero hl⟩⟩
  · refine ⟨some ⟨g, 0, none⟩, cap, rfl, hnc, hcm, hl, Or.inr ⟨g, 0, rfl, ⟨cur, (0, 0), hg⟩, fun t ht => ?_⟩⟩
    rw [cell_of_row w g (0 + t) cur _ (0, 0) hg, Nat.zero_add]
    have h1 : (inC l)[t]? = cur.toList[t]? := by
      rw [← htk, List.getElem?_take, if_pos (by omega)]
    rw [← Array.getElem?_toList, ← h1]
    simp only [inC, List.getElem?_map, List.getD_eq_getElem?_getD]
    rw [List.getElem?_eq_getElem ht]
    rfl

theorem new_int (w : World) (x : Int) (e : TypeId) : ∀ j u, ([Value.int .i64 x] : List Value)[j]? = some u → (w.alloc (.cells #[.int .i64 x] e)).cell? ((⟨w.heap.size, 0, none⟩ : Addr).add j) = some u := by
  intro j u hu
  cases j with
  | zero =>
    simp only [List.getElem?_cons_zero, Option.some.injEq] at hu
    rw [← hu]
    have hadd : (⟨w.heap.size, 0, none⟩ : Addr).add 0 = ⟨w.heap.size, 0, none⟩ := by unfold Addr.add; split <;> simp_all
    rw [hadd, World.cell?_alloc_new]
    rfl
  | succ k => simp at hu

theorem one_int (x : Int) : ∀ u ∈ ([Value.int .i64 x] : List Value), u.oneCell' = true := by
  intro u hu
  simp only [List.mem_singleton] at hu
  subst hu
  rfl

/-- What an append onto a row of the call's own leaves as it was. -/
theorem ext_grown {w a b : World} {row : Option Nat} (h : Ext w a) (hg : a.grownBy b row) (hr : ∀ k, row = some k → w.heap.size ≤ k) : Ext w b := Below.grown h hg h.size hr

theorem zval_step {l la lb : List Nat} {k c x y : Nat} (hl : l.length = k) (hx : zval (la.take (k + 1)) = zval (la.take k) + 10000 ^ k * x) (hy : zval (lb.take (k + 1)) = zval (lb.take k) + 10000 ^ k * y) (h : zval l + 10000 ^ k * c = zval (la.take k) + zval (lb.take k)) :
    zval (l ++ [(c + x + y) % 10000]) + 10000 ^ (k + 1) * ((c + x + y) / 10000) = zval (la.take (k + 1)) + zval (lb.take (k + 1)) := by
  rw [zval_snoc, hl, hx, hy, Nat.pow_succ]
  have e := Nat.div_add_mod (c + x + y) 10000
  have e2 : 10000 ^ k * ((c + x + y) % 10000) + 10000 ^ k * 10000 * ((c + x + y) / 10000) = 10000 ^ k * (c + x + y) := by
    rw [Nat.mul_assoc, ← Nat.mul_add]
    congr 1
    omega
  rw [Nat.mul_add, Nat.mul_add] at e2
  omega

theorem zval_take_in {l : List Nat} {k : Nat} (h : k < l.length) : zval (l.take (k + 1)) = zval (l.take k) + 10000 ^ k * l.getD k 0 := by
  have hl : (l.take k).length = k := by rw [List.length_take]; omega
  rw [take_zsucc l k h, zval_snoc, hl]
theorem zval_take_out {l : List Nat} {k : Nat} (h : ¬ k < l.length) : zval (l.take (k + 1)) = zval (l.take k) + 10000 ^ k * 0 := by
  rw [List.take_of_length_le (by omega), List.take_of_length_le (by omega), Nat.mul_zero, Nat.add_zero]

set_option maxHeartbeats 2000000 in
set_option maxRecDepth 100000 in
theorem dadd_any (a1 a2 : Option Addr) (la lb : List Nat) (n m c1 c2 : Nat) (w : World) (h1 : la.length = n) (h2 : lb.length = m) (s1 : ISeg w a1 la) (s2 : ISeg w a2 lb) (d1 : ZD la) (d2 : ZD lb) (hn : n ≤ 1000000) (hm : m ≤ 1000000) :
    Calls Tryd.prog 55 #[.slice a1 n c1, .slice a2 m c2] w fun e w' => ∃ (a' : Option Addr) (l' : List Nat) (n' c' : Nat), e = .returned (.slice a' n' c') ∧ l'.length = n' ∧ n' ≤ c' ∧ c' ≤ maxLen ∧ ISeg w' a' l' ∧ ZD l' ∧ Hid (zval l' = zval la + zval lb) ∧ n' ≤ max n m + 1 ∧ Ext w w' := by
  obtain ⟨i0, hi, hz0, hz1, hz2⟩ := info_parts int_info
  have H1 := Lib.hid h1; have H2 := Lib.hid h2; have S1 := Lib.hid s1; have S2 := Lib.hid s2; have D1 := Lib.hid d1; have D2 := Lib.hid d2
  have hA : n = 0 ∨ ∃ b o, a1 = some ⟨b, o, none⟩ := by
    by_cases h0 : n = 0
    · exact Or.inl h0
    · exact Or.inr (s1.some_of (by omega))
  have hB : m = 0 ∨ ∃ b o, a2 = some ⟨b, o, none⟩ := by
    by_cases h0 : m = 0
    · exact Or.inl h0
    · exact Or.inr (s2.some_of (by omega))
  clear h1 h2 s1 s2 d1 d2
  go_enter Tryd.func55, Tryd.ntmps55
  go_wp2_with fail
  go_loopw [5, 6, 7] (fun ov cv iv wr => ∃ (k c : Nat) (l : List Nat), iv = .int .i64 k ∧ cv = .int .i64 c ∧ c ≤ 1 ∧ k ≤ max n m + 1 ∧ (max n m < k → c = 0) ∧ l.length = k ∧ ZD l ∧ wr.ownsRow w.heap.size 3 1 ov k (inC l) ∧ zval l + 10000 ^ k * c = zval (la.take k) + zval (lb.take k) ∧ Ext w wr) (fun _ _ iv _ => max n m + 1 - (intOf iv).toNat)
  case atStart => exact ⟨0, 0, [], rfl, rfl, by omega, by omega, fun _ => rfl, rfl, ZD.nil, (show w.ownsRow w.heap.size 3 1 (.slice none 0 0) 0 (inC []) from World.ownsRow_nil _ _ _ _), by simp [zval], Ext.refl _⟩
  case round =>
    obtain ⟨k, c, l, rfl, rfl, hc1, hkm, hkc, hl, hd, hown, hval, hEr⟩ := hrel
    have Hl := Lib.hid hl; have Hd := Lib.hid hd; have Hval := Lib.hid hval; have Hkc := Lib.hid hkc; have Hown := Lib.hid hown
    clear hl hd hval hkc hown
    by_cases hgo : k < n ∨ k < m ∨ 0 < c
    · have hk2 : k ≤ max n m := by
        rcases hgo with h | h | h
        · omega
        · omega
        · apply Nat.le_of_not_lt; intro h3; have := Hkc.out h3; omega
      -- the digit of each, nought behind its end
      have hxe : ∃ x, x < 10000 ∧ zval (la.take (k + 1)) = zval (la.take k) + 10000 ^ k * x ∧ ((k < n ∧ ∃ b o, a1 = some ⟨b, o, none⟩ ∧ wr.cell? ⟨b, o + k, none⟩ = some (.int .i64 (x : Nat))) ∨ (¬ k < n ∧ x = 0)) := by
        by_cases h : k < n
        · rcases hA with h0 | ⟨b, o, rfl⟩
          · omega
          · exact ⟨la.getD k 0, D1.out.get k, zval_take_in (by rw [H1.out]; exact h), Or.inl ⟨h, b, o, rfl, (S1.out.ext hEr).at k (by rw [H1.out]; exact h)⟩⟩
        · exact ⟨0, by omega, zval_take_out (by rw [H1.out]; exact h), Or.inr ⟨h, rfl⟩⟩
      have hye : ∃ y, y < 10000 ∧ zval (lb.take (k + 1)) = zval (lb.take k) + 10000 ^ k * y ∧ ((k < m ∧ ∃ b o, a2 = some ⟨b, o, none⟩ ∧ wr.cell? ⟨b, o + k, none⟩ = some (.int .i64 (y : Nat))) ∨ (¬ k < m ∧ y = 0)) := by
        by_cases h : k < m
        · rcases hB with h0 | ⟨b, o, rfl⟩
          · omega
          · exact ⟨lb.getD k 0, D2.out.get k, zval_take_in (by rw [H2.out]; exact h), Or.inl ⟨h, b, o, rfl, (S2.out.ext hEr).at k (by rw [H2.out]; exact h)⟩⟩
        · exact ⟨0, by omega, zval_take_out (by rw [H2.out]; exact h), Or.inr ⟨h, rfl⟩⟩
      obtain ⟨x, hx, hxv, hxc⟩ := hxe
      obtain ⟨y, hy, hyv, hyc⟩ := hye
      have Hstep := Lib.hid (zval_step Hl.out hxv hyv Hval.out)
      obtain ⟨dg, hdg⟩ : ∃ dg, (c + x + y) % 10000 = dg := ⟨_, rfl⟩
      obtain ⟨c', hc'⟩ : ∃ c', (c + x + y) / 10000 = c' := ⟨_, rfl⟩
      rw [hdg, hc'] at Hstep
      have hdl : dg < 10000 := by omega
      have hcl : c' ≤ 1 := by omega
      have Hc0 : Hid (max n m < k + 1 → c' = 0) := by
        intro h3
        rcases hxc with ⟨h, _⟩ | ⟨_, rfl⟩
        · omega
        · rcases hyc with ⟨h, _⟩ | ⟨_, rfl⟩
          · omega
          · omega
      have rr : ((c : Int) + (x : Int) + (y : Int)).tmod 10000 = (dg : Int) := by rw [Int.tmod_eq_emod_of_nonneg (by omega)]; omega
      have qq : ((c : Int) + (x : Int) + (y : Int)).tdiv 10000 = (c' : Int) := by rw [Int.tdiv_eq_ediv_of_nonneg (by omega)]; omega
      clear hdg hc' hxv hyv
      rcases hxc with ⟨hkn, b, o, rfl, hcx⟩ | ⟨hkn, rfl⟩
      · have ikn : (k : Int) < (n : Int) := by omega
        rcases hyc with ⟨hkm2, b2, o2, rfl, hcy⟩ | ⟨hkm2, rfl⟩
        · have ikm : (k : Int) < (m : Int) := by omega
          clear hgo
          go_wp2_with (at_builtin; refine wpList_append_own _ rfl _ _ 29 rfl w.heap.size 3 i0 (.int .i64 0) 1 8 Tryd.underlying29 hi hz0 hz1 hz2 rfl (by decide) _ k (inC l) rfl (Hown.out.alloc _) ⟨wr.heap.size, 0, none⟩ 1 1 [.int .i64 (dg : Int)] rfl rfl (new_int wr _ _) (one_int _) (by unfold maxLen; omega) (by omega) (Nat.le_trans hEr.size (ext_alloc wr _).size) ?_; intro v' w' hown' hgrow' _)
          go_roundw
          case rel => exact ⟨k + 1, c', l ++ [dg], by go_num, rfl, hcl, by omega, Hc0.out, by rw [List.length_append, Hl.out]; rfl, Hd.out.snoc hdl, by rw [inC_snoc]; exact hown', Hstep.out, ext_grown (hEr.trans (ext_alloc wr _)) hgrow' (fun j hj => (Hown.out.lt j hj).1)⟩
          case measure => simp [intOf]; omega
        · have ikm : ¬ (k : Int) < (m : Int) := by omega
          have rr' : ((c : Int) + (x : Int)).tmod 10000 = (dg : Int) := by simpa using rr
          have qq' : ((c : Int) + (x : Int)).tdiv 10000 = (c' : Int) := by simpa using qq
          clear hgo rr qq
          go_wp2_with (at_builtin; refine wpList_append_own _ rfl _ _ 29 rfl w.heap.size 3 i0 (.int .i64 0) 1 8 Tryd.underlying29 hi hz0 hz1 hz2 rfl (by decide) _ k (inC l) rfl (Hown.out.alloc _) ⟨wr.heap.size, 0, none⟩ 1 1 [.int .i64 (dg : Int)] rfl rfl (new_int wr _ _) (one_int _) (by unfold maxLen; omega) (by omega) (Nat.le_trans hEr.size (ext_alloc wr _).size) ?_; intro v' w' hown' hgrow' _)
          go_roundw
          case rel => exact ⟨k + 1, c', l ++ [dg], by go_num, rfl, hcl, by omega, Hc0.out, by rw [List.length_append, Hl.out]; rfl, Hd.out.snoc hdl, by rw [inC_snoc]; exact hown', Hstep.out, ext_grown (hEr.trans (ext_alloc wr _)) hgrow' (fun j hj => (Hown.out.lt j hj).1)⟩
          case measure => simp [intOf]; omega
      · have ikn : ¬ (k : Int) < (n : Int) := by omega
        rcases hyc with ⟨hkm2, b2, o2, rfl, hcy⟩ | ⟨hkm2, rfl⟩
        · have ikm : (k : Int) < (m : Int) := by omega
          have rr' : ((c : Int) + (y : Int)).tmod 10000 = (dg : Int) := by simpa using rr
          have qq' : ((c : Int) + (y : Int)).tdiv 10000 = (c' : Int) := by simpa using qq
          clear hgo rr qq
          go_wp2_with (at_builtin; refine wpList_append_own _ rfl _ _ 29 rfl w.heap.size 3 i0 (.int .i64 0) 1 8 Tryd.underlying29 hi hz0 hz1 hz2 rfl (by decide) _ k (inC l) rfl (Hown.out.alloc _) ⟨wr.heap.size, 0, none⟩ 1 1 [.int .i64 (dg : Int)] rfl rfl (new_int wr _ _) (one_int _) (by unfold maxLen; omega) (by omega) (Nat.le_trans hEr.size (ext_alloc wr _).size) ?_; intro v' w' hown' hgrow' _)
          go_roundw
          case rel => exact ⟨k + 1, c', l ++ [dg], by go_num, rfl, hcl, by omega, Hc0.out, by rw [List.length_append, Hl.out]; rfl, Hd.out.snoc hdl, by rw [inC_snoc]; exact hown', Hstep.out, ext_grown (hEr.trans (ext_alloc wr _)) hgrow' (fun j hj => (Hown.out.lt j hj).1)⟩
          case measure => simp [intOf]; omega
        · have ikm : ¬ (k : Int) < (m : Int) := by omega
          have ic : (0 : Int) < (c : Int) := by omega
          have rr' : ((c : Int)).tmod 10000 = (dg : Int) := by simpa using rr
          have qq' : ((c : Int)).tdiv 10000 = (c' : Int) := by simpa using qq
          clear hgo rr qq
          go_wp2_with (at_builtin; refine wpList_append_own _ rfl _ _ 29 rfl w.heap.size 3 i0 (.int .i64 0) 1 8 Tryd.underlying29 hi hz0 hz1 hz2 rfl (by decide) _ k (inC l) rfl (Hown.out.alloc _) ⟨wr.heap.size, 0, none⟩ 1 1 [.int .i64 (dg : Int)] rfl rfl (new_int wr _ _) (one_int _) (by unfold maxLen; omega) (by omega) (Nat.le_trans hEr.size (ext_alloc wr _).size) ?_; intro v' w' hown' hgrow' _)
          go_roundw
          case rel => exact ⟨k + 1, c', l ++ [dg], by go_num, rfl, hcl, by omega, Hc0.out, by rw [List.length_append, Hl.out]; rfl, Hd.out.snoc hdl, by rw [inC_snoc]; exact hown', Hstep.out, ext_grown (hEr.trans (ext_alloc wr _)) hgrow' (fun j hj => (Hown.out.lt j hj).1)⟩
          case measure => simp [intOf]; omega
    · have hfin : zval l = zval la + zval lb := by
        have hc0 : c = 0 := by omega
        have hv := Hval.out
        rw [hc0, Nat.mul_zero, Nat.add_zero, List.take_of_length_le (by rw [H1.out]; omega), List.take_of_length_le (by rw [H2.out]; omega)] at hv
        exact hv
      have Hfin := Lib.hid hfin
      have g1 : ¬ (k : Int) < (n : Int) := by omega
      have g2 : ¬ (k : Int) < (m : Int) := by omega
      obtain rfl : c = 0 := by omega
      obtain ⟨a', c', rfl, q1, q2, q3, q4⟩ := iseg_of_own Hown.out
      clear hgo hfin
      go_wp2_with fail
      go_ret
      exact ⟨a', l, k, c', rfl, q3, q1, q2, q4, Hd.out, Hfin.out, by omega, hEr⟩

end Go.Proofs.YtnemjllghpijgaaDoor
namespace Go.Proofs.YtnemjllghpijgaaDoor
open Go.RowKit

/-- The digits from a on, b ahead of the end of i. -/
def dseg (D : List Nat) (a b : Nat) : List Nat := (D.take b).drop a
theorem dseg_snoc (D : List Nat) (a b : Nat) (h : a ≤ b) (hb : b < D.length) : dseg D a (b + 1) = dseg D a b ++ [D.getD b 0] := by
  unfold dseg
  rw [take_zsucc D b hb, List.drop_append_of_le_length (by rw [List.length_take]; omega)]
theorem dseg_nil (D : List Nat) (a : Nat) : dseg D a a = [] := by
  unfold dseg
  rw [List.drop_eq_nil_iff]; rw [List.length_take]; omega
theorem dseg_len (D : List Nat) (a b : Nat) (hb : b ≤ D.length) : (dseg D a b).length = b - a := by
  unfold dseg; rw [List.length_drop, List.length_take]; omega
theorem drop_dseg (D : List Nat) (a b : Nat) (h : a ≤ b) : D.drop a = dseg D a b ++ D.drop b := by
  unfold dseg
  conv => lhs; rw [← List.take_append_drop b D]
  by_cases hb : b ≤ D.length
  · rw [List.drop_append_of_le_length (by rw [List.length_take]; omega)]
  · rw [List.drop_of_length_le (l := D) (i := b) (by omega), List.append_nil, List.append_nil]

/-- A group of four digits more. -/
theorem zread_step {D l : List Nat} {i k : Nat} (hk : D.length - i = 4 * k) (hl : l.length = k) (hv : zval l = dval (D.drop i)) : zval (l ++ [dval (dseg D (i - 4) i)]) = dval (D.drop (i - 4)) := by
  rw [zval_snoc, hl, hv, drop_dseg D (i - 4) i (by omega), dval_append, List.length_drop, hk]
  have : (10000 : Nat) ^ k = 10 ^ (4 * k) := by rw [Nat.pow_mul]
  rw [this, Nat.mul_comm]
  omega

set_option maxHeartbeats 2000000 in
set_option maxRecDepth 100000 in
theorem zread_blk (s : ByteArray) (w : World) (had : AllD ((bs s).drop (sgl (bs s)))) (hs : s.size ≤ 1000000) (z : Int) (hz : z = if sgl (bs s) = 1 then -(dval ((bs s).drop (sgl (bs s))) : Int) else (dval ((bs s).drop (sgl (bs s))) : Int)) :
    Calls Tryd.prog 20 #[.string s] w (ZRetB w z 250001 (fun a' => ∀ x, a' = some x → w.heap.size + 1 ≤ x.block)) := by
  obtain ⟨i0, hi, hz0, hz1, hz2⟩ := info_parts int_info
  have Hz := Lib.hid hz; have Had := Lib.hid had
  clear hz had
  have hE := ext_alloc w (.cells #[.bool false, .slice none 0 0] 31)
  have hR := zres_new w
  by_cases h0 : s.size = 0
  · have e := bs_nil s h0
    subst e
    have hz9 : z = 0 := by rw [Hz.out]; simp [bs, sgl, dval]
    subst hz9
    go_enter Tryd.func20, Tryd.ntmps20
    go_wp2_with fail
    generalize w.alloc (.cells #[.bool false, .slice none 0 0] 31) = W0 at *
    go_loopw [4, 5] (fun dv iv wr => dv = .slice none 0 0 ∧ iv = .int .i64 0 ∧ Ext W0 wr) (fun _ _ _ => 0)
    case atStart => exact ⟨rfl, rfl, Ext.refl _⟩
    case round =>
      obtain ⟨rfl, rfl, hEr⟩ := hrel
      go_wp2_with fail
      refine (zmade_blk false none [] 0 0 wr rfl (Or.inl ⟨rfl, rfl⟩) ZD.nil (Nat.le_refl _) (Nat.zero_le _) (by omega) 0 (by simp [zval])).mono ?_
      rintro e w9 ⟨b', a', n', c', rfl, hI, hle, hx9, hP⟩
      have hR9 := hR.ext (hEr.trans hx9)
      have k0 := hR9.c0; have k1 := hR9.c1; have f0 := hR9.f 0; have f1 := hR9.f 1
      go_wp2_with fail
      exact bodyPost_ret (v := .agg #[.bool b', .slice a' n' c']) (by simp [results, Tryd.results20, go_sem, k0, k1]) rfl ⟨b', a', n', c', rfl, hI.keepRes hR9.row _ _, by omega, (Below.setCell (hE.trans (hEr.trans hx9)) (p := ⟨w.heap.size, 0, none⟩) (Nat.le_refl _) _).setCell (p := ⟨w.heap.size, 1, none⟩) (Nat.le_refl _) _, fun x hx => by rcases hP with h | h <;> rw [h] at hx <;> cases hx⟩
  · have hp : 0 < s.size := by omega
    have ip : (0 : Int) < (s.size : Int) := by omega
    have hat := bs_at s 0 hp
    by_cases h45 : (bs s).getD 0 0 = 45
    · have hb : ((s[0].toNat : Int) == 45) = true := by rw [beq_iff_eq, hat]; omega
      have hsg : sgl (bs s) = 1 := by unfold sgl; rw [if_pos h45]
      obtain ⟨t, ht⟩ : ∃ t, s.extract 1 s.size = t := ⟨_, rfl⟩
      have hbt : bs t = (bs s).drop 1 := by
        rw [← ht, bs_extract, List.take_of_length_le]
        rw [List.length_drop, bs_length]; omega
      have hts : t.size ≤ 1000000 := by rw [← bs_length, hbt, List.length_drop, bs_length]; omega
      have HadT : Hid (AllD (bs t)) := by
        have := Had.out
        rw [hsg, ← hbt] at this
        exact this
      have HzT : Hid (z = if true = true then -(dval (bs t) : Int) else (dval (bs t) : Int)) := by
        show _ = _
        rw [Hz.out, hsg, if_pos rfl, if_pos rfl, hbt]
      have i1 : (1 : Int) ≤ (s.size : Int) := by omega
      clear hat h45 h0 hsg hbt
      go_enter Tryd.func20, Tryd.ntmps20
      go_wp2_with fail
      clear ht hs
      generalize w.alloc (.cells #[.bool false, .slice none 0 0] 31) = W0 at *
      go_loopw [4, 5] (fun dv iv wr => ∃ (k : Nat) (i : Int) (l : List Nat), iv = .int .i64 i ∧ i = (t.size : Int) - 4 * (k : Int) ∧ i ≤ t.size ∧ -4 < i ∧ l.length = k ∧ k ≤ 250000 ∧ ZD l ∧ wr.ownsRow W0.heap.size 3 1 dv k (inC l) ∧ zval l = dval ((bs t).drop i.toNat) ∧ Ext W0 wr) (fun _ iv _ => (intOf iv).toNat)
      case atStart => exact ⟨0, t.size, [], by go_num, by omega, by omega, by omega, rfl, by omega, ZD.nil, (show W0.ownsRow W0.heap.size 3 1 (.slice none 0 0) 0 (inC []) from World.ownsRow_nil _ _ _ _), by rw [List.drop_of_length_le (by rw [bs_length]; omega)]; rfl, Ext.refl _⟩
      case round =>
        obtain ⟨k, i, l, rfl, hik, hi1, hi2, hl, hkb, hd, hown, hval, hEr⟩ := hrel
        have Hl := Lib.hid hl; have Hd := Lib.hid hd; have Hval := Lib.hid hval; have Hown := Lib.hid hown; have Hik := Lib.hid hik
        clear hl hd hval hown hik
        by_cases hgo : 0 < i
        · go_wp2_with fail
          go_loop [6, 7] (fun nv jv => ∃ (j : Int), jv = .int .i64 j ∧ i - 4 ≤ j ∧ j ≤ i ∧ nv = .int .i64 (dval (dseg (bs t) (i - 4).toNat j.toNat) : Nat)) (fun _ jv => (i - intOf jv).toNat)
          case atStart => exact ⟨i - 4, by go_num, by omega, by omega, by rw [dseg_nil]; rfl⟩
          case round =>
            obtain ⟨j, rfl, hj1, hj2, rfl⟩ := hrel
            have hnb : j < i → dval (dseg (bs t) (i - 4).toNat j.toNat) < 1000 := by
              intro hji
              have h1 := dval_lt _ ((HadT.out.take j.toNat).drop (i - 4).toNat)
              have h2 := dseg_len (bs t) (i - 4).toNat j.toNat (by rw [bs_length]; omega)
              unfold dseg at h2 ⊢
              rw [h2] at h1
              have h3 : (10 : Nat) ^ (j.toNat - (i - 4).toNat) ≤ 10 ^ 3 := Nat.pow_le_pow_right (by decide) (by omega)
              omega
            by_cases hji : j < i
            · have hnb' := hnb hji
              by_cases hj0 : 0 ≤ j
              · obtain ⟨jn, rfl⟩ : ∃ jn : Nat, j = (jn : Int) := ⟨j.toNat, by omega⟩
                have hjl : jn < t.size := by omega
                have hatj := bs_at t jn hjl
                have hdj := HadT.out jn (by rw [bs_length]; exact hjl)
                simp only [isD, decide_eq_true_eq] at hdj
                have Hst : Hid (dval (dseg (bs t) (i - 4).toNat (jn + 1)) = 10 * dval (dseg (bs t) (i - 4).toNat jn) + ((bs t).getD jn 0 - 48)) := by
                  show _ = _
                  rw [dseg_snoc _ _ _ (by omega) (by rw [bs_length]; exact hjl), dval_snoc]
                obtain ⟨x, hx⟩ : ∃ x, t[jn].toNat = x := ⟨_, rfl⟩
                have hx1 : 48 ≤ x ∧ x ≤ 57 := by rw [← hx, hatj]; exact hdj
                obtain ⟨hx1, hx2⟩ := hx1
                rw [← hatj, hx] at Hst
                have etn : ((jn : Int)).toNat = jn := by omega
                rw [etn] at hnb' ⊢
                obtain ⟨nn, hnn⟩ : ∃ nn, dval (dseg (bs t) (i - 4).toNat jn) = nn := ⟨_, rfl⟩
                rw [hnn] at Hst hnb' ⊢
                have ehx : (t[jn].toNat : Int) = (x : Int) := by rw [hx]
                have ijl : (jn : Int) < (t.size : Int) := by omega
                clear hnb hatj hdj hx hnn etn
                go_wp2_with fail
                go_round
                case rel => exact ⟨(jn : Int) + 1, by go_num, by omega, by omega, by rw [show ((jn : Int) + 1).toNat = jn + 1 by omega, Hst.out]; go_num⟩
                case measure => simp [intOf]; omega
              · have e0 : j.toNat = 0 := by omega
                have e1 : (j + 1).toNat = 0 := by omega
                rw [e0]
                obtain ⟨nn, hnn⟩ : ∃ nn, dval (dseg (bs t) (i - 4).toNat 0) = nn := ⟨_, rfl⟩
                rw [hnn]
                have Hnn := Lib.hid hnn
                clear hnb hnb' hnn
                go_wp2_with fail
                go_round
                case rel => exact ⟨j + 1, by go_num, by omega, by omega, by rw [e1, Hnn.out]⟩
                case measure => simp [intOf]; omega
            · obtain rfl : j = i := by omega
              have Hstep := Lib.hid (zread_step (D := bs t) (l := l) (i := j.toNat) (k := k) (by rw [bs_length]; have := Hik.out; omega) Hl.out Hval.out)
              have hdl : dval (dseg (bs t) (j.toNat - 4) j.toNat) < 10000 := by
                have h1 := dval_lt _ ((HadT.out.take j.toNat).drop (j.toNat - 4))
                have h2 := dseg_len (bs t) (j.toNat - 4) j.toNat (by rw [bs_length]; omega)
                unfold dseg at h2 ⊢
                rw [h2] at h1
                have h3 : (10 : Nat) ^ (j.toNat - (j.toNat - 4)) ≤ 10 ^ 4 := Nat.pow_le_pow_right (by decide) (by omega)
                omega
              have e4 : (j - 4).toNat = j.toNat - 4 := by omega
              rw [e4]
              obtain ⟨dg, hdg⟩ : ∃ dg, dval (dseg (bs t) (j.toNat - 4) j.toNat) = dg := ⟨_, rfl⟩
              rw [hdg] at Hstep hdl ⊢
              have Hk4 : Hid (k + 1 ≤ 250000) := by show _ ≤ _; have := Hik.out; omega
              have hkk := Hk4.out
              clear hnb hdg
              go_wp2_with (at_builtin; refine wpList_append_own _ rfl _ _ 29 rfl W0.heap.size 3 i0 (.int .i64 0) 1 8 Tryd.underlying29 hi hz0 hz1 hz2 rfl (by decide) _ k (inC l) rfl (Hown.out.alloc _) ⟨wr.heap.size, 0, none⟩ 1 1 [.int .i64 (dg : Int)] rfl rfl (new_int wr _ _) (one_int _) (by unfold maxLen; omega) (by omega) (Nat.le_trans hEr.size (ext_alloc wr _).size) ?_; intro v' w' hown' hgrow' _)
              go_roundw
              case rel => exact ⟨k + 1, j - 4, l ++ [dg], by go_num, by have := Hik.out; omega, by omega, by omega, by rw [List.length_append, Hl.out]; rfl, hkk, Hd.out.snoc hdl, by rw [inC_snoc]; exact hown', by rw [e4]; exact Hstep.out, ext_grown (hEr.trans (ext_alloc wr _)) hgrow' (fun j hj => (Hown.out.lt j hj).1)⟩
              case measure => simp [intOf]; omega
        · have hz9 : zval l = dval (bs t) := by
            have := Hval.out
            rw [show i.toNat = 0 by omega, List.drop_zero] at this
            exact this
          obtain ⟨a9, c9, rfl, q1, q2, q3, q4⟩ := iseg_of_own Hown.out
          have Hbk : Hid (∀ x, a9 = some x → W0.heap.size ≤ x.block) := fun x hx => (Hown.out.lt x.block (by rw [hx]; rfl)).1
          have lW : w.heap.size + 1 ≤ W0.heap.size := hR.lt
          have Hm := Lib.hid (zmade_blk true a9 l k c9 wr q3 q4 Hd.out q1 q2 (by omega) z (by rw [hz9]; exact HzT.out))
          clear hz9
          go_wp2_with fail
          refine Hm.out.mono ?_
          rintro e w9 ⟨b', a', n', c', rfl, hI, hle, hx9, hP⟩
          have hR9 := hR.ext (hEr.trans hx9)
          have k0 := hR9.c0; have k1 := hR9.c1; have f0 := hR9.f 0; have f1 := hR9.f 1
          go_wp2_with fail
          exact bodyPost_ret (v := .agg #[.bool b', .slice a' n' c']) (by simp [results, Tryd.results20, go_sem, k0, k1]) rfl ⟨b', a', n', c', rfl, hI.keepRes hR9.row _ _, by omega, (Below.setCell (hE.trans (hEr.trans hx9)) (p := ⟨w.heap.size, 0, none⟩) (Nat.le_refl _) _).setCell (p := ⟨w.heap.size, 1, none⟩) (Nat.le_refl _) _, fun x hx => by
            rcases hP with h | h
            · rw [h] at hx; cases hx
            · rw [h] at hx; exact Nat.le_trans lW (Hbk.out x hx)⟩
    · have hb : ((s[0].toNat : Int) == 45) = false := by rw [beq_eq_false_iff_ne, hat]; omega
      have hsg : sgl (bs s) = 0 := by unfold sgl; rw [if_neg h45]
      have HadT : Hid (AllD (bs s)) := by
        have := Had.out
        rw [hsg, List.drop_zero] at this
        exact this
      have HzT : Hid (z = if false = true then -(dval (bs s) : Int) else (dval (bs s) : Int)) := by
        show _ = _
        rw [Hz.out, hsg, if_neg (by decide), List.drop_zero]; rfl
      clear hat h45 h0 hsg
      go_enter Tryd.func20, Tryd.ntmps20
      go_wp2_with fail
      generalize w.alloc (.cells #[.bool false, .slice none 0 0] 31) = W0 at *
      go_loopw [4, 5] (fun dv iv wr => ∃ (k : Nat) (i : Int) (l : List Nat), iv = .int .i64 i ∧ i = (s.size : Int) - 4 * (k : Int) ∧ i ≤ s.size ∧ -4 < i ∧ l.length = k ∧ k ≤ 250000 ∧ ZD l ∧ wr.ownsRow W0.heap.size 3 1 dv k (inC l) ∧ zval l = dval ((bs s).drop i.toNat) ∧ Ext W0 wr) (fun _ iv _ => (intOf iv).toNat)
      case atStart => exact ⟨0, s.size, [], by go_num, by omega, by omega, by omega, rfl, by omega, ZD.nil, (show W0.ownsRow W0.heap.size 3 1 (.slice none 0 0) 0 (inC []) from World.ownsRow_nil _ _ _ _), by rw [List.drop_of_length_le (by rw [bs_length]; omega)]; rfl, Ext.refl _⟩
      case round =>
        obtain ⟨k, i, l, rfl, hik, hi1, hi2, hl, hkb, hd, hown, hval, hEr⟩ := hrel
        have Hl := Lib.hid hl; have Hd := Lib.hid hd; have Hval := Lib.hid hval; have Hown := Lib.hid hown; have Hik := Lib.hid hik
        clear hl hd hval hown hik
        by_cases hgo : 0 < i
        · go_wp2_with fail
          go_loop [6, 7] (fun nv jv => ∃ (j : Int), jv = .int .i64 j ∧ i - 4 ≤ j ∧ j ≤ i ∧ nv = .int .i64 (dval (dseg (bs s) (i - 4).toNat j.toNat) : Nat)) (fun _ jv => (i - intOf jv).toNat)
          case atStart => exact ⟨i - 4, by go_num, by omega, by omega, by rw [dseg_nil]; rfl⟩
          case round =>
            obtain ⟨j, rfl, hj1, hj2, rfl⟩ := hrel
            have hnb : j < i → dval (dseg (bs s) (i - 4).toNat j.toNat) < 1000 := by
              intro hji
              have h1 := dval_lt _ ((HadT.out.take j.toNat).drop (i - 4).toNat)
              have h2 := dseg_len (bs s) (i - 4).toNat j.toNat (by rw [bs_length]; omega)
              unfold dseg at h2 ⊢
              rw [h2] at h1
              have h3 : (10 : Nat) ^ (j.toNat - (i - 4).toNat) ≤ 10 ^ 3 := Nat.pow_le_pow_right (by decide) (by omega)
              omega
            by_cases hji : j < i
            · have hnb' := hnb hji
              by_cases hj0 : 0 ≤ j
              · obtain ⟨jn, rfl⟩ : ∃ jn : Nat, j = (jn : Int) := ⟨j.toNat, by omega⟩
                have hjl : jn < s.size := by omega
                have hatj := bs_at s jn hjl
                have hdj := HadT.out jn (by rw [bs_length]; exact hjl)
                simp only [isD, decide_eq_true_eq] at hdj
                have Hst : Hid (dval (dseg (bs s) (i - 4).toNat (jn + 1)) = 10 * dval (dseg (bs s) (i - 4).toNat jn) + ((bs s).getD jn 0 - 48)) := by
                  show _ = _
                  rw [dseg_snoc _ _ _ (by omega) (by rw [bs_length]; exact hjl), dval_snoc]
                obtain ⟨x, hx⟩ : ∃ x, s[jn].toNat = x := ⟨_, rfl⟩
                have hx1 : 48 ≤ x ∧ x ≤ 57 := by rw [← hx, hatj]; exact hdj
                obtain ⟨hx1, hx2⟩ := hx1
                rw [← hatj, hx] at Hst
                have etn : ((jn : Int)).toNat = jn := by omega
                rw [etn] at hnb' ⊢
                obtain ⟨nn, hnn⟩ : ∃ nn, dval (dseg (bs s) (i - 4).toNat jn) = nn := ⟨_, rfl⟩
                rw [hnn] at Hst hnb' ⊢
                have ehx : (s[jn].toNat : Int) = (x : Int) := by rw [hx]
                have ijl : (jn : Int) < (s.size : Int) := by omega
                clear hnb hatj hdj hx hnn etn
                go_wp2_with fail
                go_round
                case rel => exact ⟨(jn : Int) + 1, by go_num, by omega, by omega, by rw [show ((jn : Int) + 1).toNat = jn + 1 by omega, Hst.out]; go_num⟩
                case measure => simp [intOf]; omega
              · have e0 : j.toNat = 0 := by omega
                have e1 : (j + 1).toNat = 0 := by omega
                rw [e0]
                obtain ⟨nn, hnn⟩ : ∃ nn, dval (dseg (bs s) (i - 4).toNat 0) = nn := ⟨_, rfl⟩
                rw [hnn]
                have Hnn := Lib.hid hnn
                clear hnb hnb' hnn
                go_wp2_with fail
                go_round
                case rel => exact ⟨j + 1, by go_num, by omega, by omega, by rw [e1, Hnn.out]⟩
                case measure => simp [intOf]; omega
            · obtain rfl : j = i := by omega
              have Hstep := Lib.hid (zread_step (D := bs s) (l := l) (i := j.toNat) (k := k) (by rw [bs_length]; have := Hik.out; omega) Hl.out Hval.out)
              have hdl : dval (dseg (bs s) (j.toNat - 4) j.toNat) < 10000 := by
                have h1 := dval_lt _ ((HadT.out.take j.toNat).drop (j.toNat - 4))
                have h2 := dseg_len (bs s) (j.toNat - 4) j.toNat (by rw [bs_length]; omega)
                unfold dseg at h2 ⊢
                rw [h2] at h1
                have h3 : (10 : Nat) ^ (j.toNat - (j.toNat - 4)) ≤ 10 ^ 4 := Nat.pow_le_pow_right (by decide) (by omega)
                omega
              have e4 : (j - 4).toNat = j.toNat - 4 := by omega
              rw [e4]
              obtain ⟨dg, hdg⟩ : ∃ dg, dval (dseg (bs s) (j.toNat - 4) j.toNat) = dg := ⟨_, rfl⟩
              rw [hdg] at Hstep hdl ⊢
              have Hk4 : Hid (k + 1 ≤ 250000) := by show _ ≤ _; have := Hik.out; omega
              have hkk := Hk4.out
              clear hnb hdg
              go_wp2_with (at_builtin; refine wpList_append_own _ rfl _ _ 29 rfl W0.heap.size 3 i0 (.int .i64 0) 1 8 Tryd.underlying29 hi hz0 hz1 hz2 rfl (by decide) _ k (inC l) rfl (Hown.out.alloc _) ⟨wr.heap.size, 0, none⟩ 1 1 [.int .i64 (dg : Int)] rfl rfl (new_int wr _ _) (one_int _) (by unfold maxLen; omega) (by omega) (Nat.le_trans hEr.size (ext_alloc wr _).size) ?_; intro v' w' hown' hgrow' _)
              go_roundw
              case rel => exact ⟨k + 1, j - 4, l ++ [dg], by go_num, by have := Hik.out; omega, by omega, by omega, by rw [List.length_append, Hl.out]; rfl, hkk, Hd.out.snoc hdl, by rw [inC_snoc]; exact hown', by rw [e4]; exact Hstep.out, ext_grown (hEr.trans (ext_alloc wr _)) hgrow' (fun j hj => (Hown.out.lt j hj).1)⟩
              case measure => simp [intOf]; omega
        · have hz9 : zval l = dval (bs s) := by
            have := Hval.out
            rw [show i.toNat = 0 by omega, List.drop_zero] at this
            exact this
          obtain ⟨a9, c9, rfl, q1, q2, q3, q4⟩ := iseg_of_own Hown.out
          have Hbk : Hid (∀ x, a9 = some x → W0.heap.size ≤ x.block) := fun x hx => (Hown.out.lt x.block (by rw [hx]; rfl)).1
          have lW : w.heap.size + 1 ≤ W0.heap.size := hR.lt
          have Hm := Lib.hid (zmade_blk false a9 l k c9 wr q3 q4 Hd.out q1 q2 (by omega) z (by rw [hz9]; exact HzT.out))
          clear hz9
          go_wp2_with fail
          refine Hm.out.mono ?_
          rintro e w9 ⟨b', a', n', c', rfl, hI, hle, hx9, hP⟩
          have hR9 := hR.ext (hEr.trans hx9)
          have k0 := hR9.c0; have k1 := hR9.c1; have f0 := hR9.f 0; have f1 := hR9.f 1
          go_wp2_with fail
          exact bodyPost_ret (v := .agg #[.bool b', .slice a' n' c']) (by simp [results, Tryd.results20, go_sem, k0, k1]) rfl ⟨b', a', n', c', rfl, hI.keepRes hR9.row _ _, by omega, (Below.setCell (hE.trans (hEr.trans hx9)) (p := ⟨w.heap.size, 0, none⟩) (Nat.le_refl _) _).setCell (p := ⟨w.heap.size, 1, none⟩) (Nat.le_refl _) _, fun x hx => by
            rcases hP with h | h
            · rw [h] at hx; cases hx
            · rw [h] at hx; exact Nat.le_trans lW (Hbk.out x hx)⟩

end Go.Proofs.YtnemjllghpijgaaDoor
namespace Go.Proofs.YtnemjllghpijgaaDoor
open Go.RowKit

theorem ISeg.only {w w' : World} {ao : Option Addr} {l : List Nat} {g : Nat} (h : ISeg w ao l) (k : Only g w w') (hb : ∀ a, ao = some a → a.block ≠ g) : ISeg w' ao l := by
  rcases h with h | ⟨b, o, rfl, hb', hc⟩
  · exact Or.inl h
  · exact Or.inr ⟨b, o, rfl, hb'.block (k.block b (hb _ rfl)), fun t ht => (World.cell?_of_block (a := ⟨b, o + t, none⟩) (k.block b (hb _ rfl))).trans (hc t ht)⟩
theorem IsZ.only {w w' : World} {neg : Bool} {ao : Option Addr} {n c : Nat} {z : Int} {g : Nat} (h : IsZ w neg ao n c z) (k : Only g w w') (hb : ∀ a, ao = some a → a.block ≠ g) : IsZ w' neg ao n c z := by
  obtain ⟨l, h1, h2, h3, h4, h5⟩ := h
  exact ⟨l, h1, h2, h3, h4.only k hb, h5⟩

set_option maxHeartbeats 1000000 in
set_option maxRecDepth 100000 in
theorem ZParse_any (s : ByteArray) (w : World) (hs : s.size ≤ 9223372036854775807) :
    Calls Tryd.prog 5 #[.string s] w fun e w' => ∃ b' : Bool, ∃ (a' : Option Addr) (n' c' : Nat), e = .returned (.tuple #[.agg #[.bool b', .slice a' n' c'], .agg #[.int .i64 (pcode (bs s) : Nat), .int .i64 (pat (bs s) : Nat)]]) ∧ IsZ w' b' a' n' c' (pz (bs s)) ∧ n' ≤ 250001 ∧ Ext w w' := by
  have Hscan := Lib.hid (fun wx => word_any s wx hs)
  have Hlong := Lib.hid (fun wx => digitsOf_any s wx hs)
  have hlen := bs_length s
  have hsl := sgl_le (bs s)
  obtain ⟨en, hen⟩ : ∃ en, (scanN (bs s)).1 = en := ⟨_, rfl⟩
  obtain ⟨ok, hok⟩ : ∃ ok, (scanN (bs s)).2 = ok := ⟨_, rfl⟩
  obtain ⟨dn, hdn⟩ : ∃ dn, s.size - sgl (bs s) = dn := ⟨_, rfl⟩
  rw [hen, hok] at Hscan
  rw [hdn] at Hlong
  suffices hmain : Calls Tryd.prog 5 #[.string s] w fun e w' => ∃ v1 v2 : Value, e = .returned (.tuple #[v1, v2]) ∧ v2 = .agg #[.int .i64 (pcode (bs s) : Nat), .int .i64 (pat (bs s) : Nat)] ∧ ZRet w (pz (bs s)) 250001 (.returned v1) w' by
    refine hmain.mono ?_
    rintro e w' ⟨v1, v2, rfl, rfl, b', a', n', c', h1, h2, h3, h4⟩
    cases h1
    exact ⟨b', a', n', c', rfl, h2, h3, h4⟩
  by_cases hbad : ok = true ∧ ¬ en < s.size
  · obtain ⟨rfl, hlt⟩ := hbad
    have hil : ¬ ((en : Nat) : Int) < (s.size : Int) := by omega
    by_cases hlg : 1000 < dn
    · have Hz : Hid (pz (bs s) = 0) := by show _ = _; unfold pz; rw [if_neg]; rw [hlen, hdn]; exact fun h => h.2.2 hlg
      have Hc : Hid (pcode (bs s) = 2) := by show _ = _; unfold pcode; rw [if_pos ⟨hok, by rw [hen, hlen]; exact hlt⟩, if_pos (by rw [hlen, hdn]; exact hlg)]
      have Ha : Hid (pat (bs s) = 0) := by show _ = _; unfold pat; rw [if_pos ⟨hok, by rw [hen, hlen]; exact hlt⟩]
      have ilg : (1000 : Int) < (dn : Int) := by omega
      rw [Hz.out, Hc.out, Ha.out]
      clear hlg hlt hen hok hlen hdn hsl
      go_enter Tryd.func5, Tryd.ntmps5
      go_wp2_with fail
      refine (Hscan.out _).mono ?_
      rintro e w1 ⟨rfl, rfl⟩
      go_wp2_with fail
      refine (Hlong.out _).mono ?_
      rintro e w1 ⟨rfl, rfl⟩
      go_wp2_with fail
      exact bodyPost_ret (v := .tuple #[.agg #[.bool false, .slice none 0 0], .agg #[.int .i64 2, .int .i64 0]]) (by simp [results, Tryd.results5, go_sem]) rfl ⟨_, _, rfl, rfl, false, none, 0, 0, rfl, IsZ.zero _, by omega, (ext_alloc _ _).trans (ext_alloc _ _)⟩
    · have Hz : Hid (pz (bs s) = if sgl (bs s) = 1 then -(dval ((bs s).drop (sgl (bs s))) : Int) else (dval ((bs s).drop (sgl (bs s))) : Int)) := by
        show _ = _
        unfold pz
        rw [if_pos ⟨hok, by rw [hen, hlen]; exact hlt, by rw [hlen, hdn]; exact hlg⟩]
        unfold sgn
        have := hsl.2
        by_cases h1 : sgl (bs s) = 1
        · rw [if_pos h1, h1]; rfl
        · have h0 : sgl (bs s) = 0 := by omega
          rw [if_neg h1, h0]; rfl
      have Hc : Hid (pcode (bs s) = 0) := by show _ = _; unfold pcode; rw [if_pos ⟨hok, by rw [hen, hlen]; exact hlt⟩, if_neg (by rw [hlen, hdn]; exact hlg)]
      have Ha : Hid (pat (bs s) = 0) := by show _ = _; unfold pat; rw [if_pos ⟨hok, by rw [hen, hlen]; exact hlt⟩]
      have Hread := Lib.hid (fun wx => zread_blk s wx (allD_of_scan _ hok (by rw [hen, hlen]; exact hlt)) (by omega) (pz (bs s)) Hz.out)
      have ilg : ¬ (1000 : Int) < (dn : Int) := by omega
      rw [Hc.out, Ha.out]
      obtain ⟨z, ez⟩ : ∃ z, pz (bs s) = z := ⟨_, rfl⟩
      rw [ez] at Hread ⊢
      clear hlg hlt hen hok hlen hdn hsl ez Hz
      have hR := (zres_new w).ext (ext_alloc _ (.cells #[.int .i64 0, .int .i64 0] 26))
      have hF : FRes ((w.alloc (.cells #[.bool false, .slice none 0 0] 31)).alloc (.cells #[.int .i64 0, .int .i64 0] 26)) (w.heap.size + 1) := by
        refine ⟨by simp, ?_⟩
        have := heap_alloc_new (w.alloc (.cells #[.bool false, .slice none 0 0] 31)) (.cells #[.int .i64 0, .int .i64 0] 26)
        simpa using this
      have hE : Ext w ((w.alloc (.cells #[.bool false, .slice none 0 0] 31)).alloc (.cells #[.int .i64 0, .int .i64 0] 26)) := (ext_alloc _ _).trans (ext_alloc _ _)
      go_enter Tryd.func5, Tryd.ntmps5
      go_wp2_with fail
      generalize (w.alloc (.cells #[.bool false, .slice none 0 0] 31)).alloc (.cells #[.int .i64 0, .int .i64 0] 26) = W0 at *
      refine (Hscan.out _).mono ?_
      rintro e w1 ⟨rfl, rfl⟩
      go_wp2_with fail
      refine (Hlong.out _).mono ?_
      rintro e w1 ⟨rfl, rfl⟩
      go_wp2_with fail
      refine (Hread.out _).mono ?_
      rintro e w3 ⟨b', a', n', c', rfl, hI, hle, he3, hP⟩
      have hr4 := hR.ext he3; have hf4 := hF.ext he3
      have k0 := hr4.c0; have k1 := hr4.c1; have g0 := hr4.f 0; have g1 := hr4.f 1
      have k2 := hf4.c0; have k3 := hf4.c1; have g2 := hf4.f0; have g3 := hf4.f1
      have lF := hF.lt
      have hO : Only (w.heap.size + 1) ((w3.setCell ⟨w.heap.size, 0, none⟩ (.bool b')).setCell ⟨w.heap.size, 1, none⟩ (.slice a' n' c')) ((((w3.setCell ⟨w.heap.size, 0, none⟩ (.bool b')).setCell ⟨w.heap.size, 1, none⟩ (.slice a' n' c')).setCell ⟨w.heap.size + 1, 0, none⟩ (.int .i64 0)).setCell ⟨w.heap.size + 1, 1, none⟩ (.int .i64 0)) := ((Only.refl _ _).setCell _ _).setCell _ _
      have HI := Lib.hid ((hI.keepRes hr4.row (.bool b') (.slice a' n' c')).only hO (fun a ha => by have := hP a ha; omega))
      have HE := Lib.hid (((((Below.setCell (hE.trans he3) (p := ⟨w.heap.size, 0, none⟩) (Nat.le_refl _) (.bool b')).setCell (p := ⟨w.heap.size, 1, none⟩) (Nat.le_refl _) (.slice a' n' c')).setCell (p := ⟨w.heap.size + 1, 0, none⟩) (Nat.le_succ _) (.int .i64 0)).setCell (p := ⟨w.heap.size + 1, 1, none⟩) (Nat.le_succ _) (.int .i64 0)))
      clear hP lF hO
      go_wp2_with fail
      exact bodyPost_ret (v := .tuple #[.agg #[.bool b', .slice a' n' c'], .agg #[.int .i64 0, .int .i64 0]]) (by simp [results, Tryd.results5, go_sem, k0, k1, k2, k3]) rfl ⟨_, _, rfl, rfl, b', a', n', c', rfl, HI.out, hle, HE.out⟩
  · have Hz : Hid (pz (bs s) = 0) := by show _ = _; unfold pz; rw [if_neg]; rw [hok, hen, hlen]; exact fun h => hbad ⟨h.1, h.2.1⟩
    have Hc : Hid (pcode (bs s) = 1) := by show _ = _; unfold pcode; rw [if_neg]; rw [hok, hen, hlen]; exact hbad
    have Ha : Hid (pat (bs s) = en) := by show _ = _; unfold pat; rw [if_neg, hen]; rw [hok, hen, hlen]; exact hbad
    rw [Hz.out, Hc.out, Ha.out]
    have hcase : ok = false ∨ (ok = true ∧ ((en : Nat) : Int) < (s.size : Int)) := by
      cases ok
      · exact Or.inl rfl
      · right; refine ⟨rfl, ?_⟩
        have : en < s.size := Decidable.byContradiction fun h => hbad ⟨rfl, h⟩
        omega
    clear hbad hen hok hlen hdn hsl
    rcases hcase with rfl | ⟨rfl, hil⟩
    all_goals
      go_enter Tryd.func5, Tryd.ntmps5
      go_wp2_with fail
      refine (Hscan.out _).mono ?_
      rintro e w1 ⟨rfl, rfl⟩
      go_wp2_with fail
      exact bodyPost_ret (v := .tuple #[.agg #[.bool false, .slice none 0 0], .agg #[.int .i64 1, .int .i64 (en : Nat)]]) (by simp [results, Tryd.results5, go_sem]) rfl ⟨_, _, rfl, rfl, false, none, 0, 0, rfl, IsZ.zero _, by omega, (ext_alloc _ _).trans (ext_alloc _ _)⟩

end Go.Proofs.YtnemjllghpijgaaDoor
