/-
  front, mulUneven: products cut in two.
-/
import Derived.Test.YtfjbhiihfibbaaaDoorMAdd
import Derived.Test.YtfjbhiihfibbaaaDoorMDivL
import Derived.Deep.RegionHeld3

namespace Go.Proofs.YtfjbhiihfibbaaaDoor
open Go.RowKit

/-- A product has no more words than its factors together. -/
theorem prod_len {l l1 l2 : List Nat} (hm : Nrm l) (hv : val l = val l1 * val l2) (d1 : Dig l1) (d2 : Dig l2) : l.length ≤ l1.length + l2.length := by
  have h1 := val_lt d1
  have h2 := val_lt d2
  apply Nat.le_of_not_lt
  intro h
  have h3 := hm.ge (by intro e; subst e; simp at h)
  have h4 : B64 ^ (l1.length + l2.length) ≤ B64 ^ (l.length - 1) := Nat.pow_le_pow_right B64_pos (by omega)
  have h5 : val l1 * val l2 < B64 ^ l1.length * B64 ^ l2.length := by
    by_cases h0 : val l2 = 0
    · rw [h0, Nat.mul_zero]; exact Nat.mul_pos (Nat.pow_pos B64_pos) (Nat.pow_pos B64_pos)
    · exact Nat.lt_of_lt_of_le (Nat.mul_lt_mul_of_pos_right h1 (by omega)) (Nat.mul_le_mul_left _ (Nat.le_of_lt h2))
  rw [← Nat.pow_add] at h5
  omega

theorem seg_from {w : World} {b o : Nat} {l : List Nat} (h : Seg w (some ⟨b, o, none⟩) l) (k : Nat) : Seg w (some ⟨b, o + k, none⟩) (l.drop k) := by
  rcases h with ⟨h, _⟩ | ⟨b', o', h, hb, hc⟩
  · cases h
  · simp only [Option.some.injEq, Addr.mk.injEq, and_true] at h
    obtain ⟨rfl, rfl⟩ := h
    refine Or.inr ⟨b, o + k, rfl, hb, fun t ht => ?_⟩
    rw [List.length_drop] at ht
    rw [Nat.add_assoc, hc (k + t) (by omega), drop_getD]

/-- The sum of both parts of a product cut in two. -/
theorem uneven_val {M L P1 l1 l2 : List Nat} {k N carry : Nat} (hk : k ≤ l1.length) (d1 : Dig l1) (d2 : Dig l2) (hN : l1.length + l2.length = N) (hkN : k ≤ N) (hL : L.length = N) (hLv : val L = val (l1.take k) * val l2) (hT : Turned L M k (N - k))
    (hp : val P1 = val (l1.drop k) * val l2) (hv : val (seg M k (N - k)) + B64 ^ (N - k) * carry = val (seg L k (N - k)) + val P1) : val M = val l1 * val l2 := by
  have hM : M.length = N := by rw [hT.1]; exact hL
  have e1 := val_seg_split M 0 k N hkN (by omega)
  have e2 := val_seg_split L 0 k N hkN (by omega)
  rw [show seg M 0 N = M from by rw [← hM]; exact seg_all M, Nat.zero_add] at e1
  rw [show seg L 0 N = L from by rw [← hL]; exact seg_all L, Nat.zero_add] at e2
  have e3 : seg M 0 k = seg L 0 k := seg_congr _ _ _ _ hT.1 (fun t _ ht => hT.2 t (by omega))
  have e4 := val_drop_take l1 k hk
  have hX : B64 ^ N = B64 ^ k * B64 ^ (N - k) := by rw [← Nat.pow_add]; congr 1; omega
  have h5 : B64 ^ k * (val (seg M k (N - k)) + B64 ^ (N - k) * carry) = B64 ^ k * (val (seg L k (N - k)) + val P1) := by rw [hv]
  rw [Nat.mul_add, Nat.mul_add, ← Nat.mul_assoc, ← hX, hp] at h5
  have h6 : val l1 * val l2 = val (l1.take k) * val l2 + B64 ^ k * (val (l1.drop k) * val l2) := by rw [e4, Nat.add_mul, Nat.mul_assoc]
  have h7 : val M + B64 ^ N * carry = val l1 * val l2 := by rw [h6, ← hLv, e1, e2, e3]; omega
  have h8 : val l1 * val l2 < B64 ^ N := by
    have h1 := val_lt d1
    have h2 := val_lt d2
    rw [← hN, Nat.pow_add]
    by_cases h0 : val l2 = 0
    · rw [h0, Nat.mul_zero]; exact Nat.mul_pos (Nat.pow_pos B64_pos) (Nat.pow_pos B64_pos)
    · exact Nat.lt_of_lt_of_le (Nat.mul_lt_mul_of_pos_right h1 (by omega)) (Nat.mul_le_mul_left _ (Nat.le_of_lt h2))
  exact (no_carry h7 h8).2

end Go.Proofs.YtfjbhiihfibbaaaDoor

/-
  mulHalves and mulWords: products of words, however long.
-/
namespace Go.Proofs.YtfjbhiihfibbaaaDoor
open Go.RowKit

theorem add_at {M L P : List Nat} {k N carry : Nat} (hkN : k ≤ N) (hL : L.length = N) (hT : Turned L M k (N - k)) (hv : val (seg M k (N - k)) + B64 ^ (N - k) * carry = val (seg L k (N - k)) + val P) :
    val M + B64 ^ N * carry = val L + B64 ^ k * val P := by
  have hM : M.length = N := by rw [hT.1]; exact hL
  have e1 := val_seg_split M 0 k N hkN (by omega)
  have e2 := val_seg_split L 0 k N hkN (by omega)
  rw [show seg M 0 N = M from by rw [← hM]; exact seg_all M, Nat.zero_add] at e1
  rw [show seg L 0 N = L from by rw [← hL]; exact seg_all L, Nat.zero_add] at e2
  have e3 : seg M 0 k = seg L 0 k := seg_congr _ _ _ _ hT.1 (fun t _ ht => hT.2 t (by omega))
  have hX : B64 ^ N = B64 ^ k * B64 ^ (N - k) := by rw [← Nat.pow_add]; congr 1; omega
  have h5 : B64 ^ k * (val (seg M k (N - k)) + B64 ^ (N - k) * carry) = B64 ^ k * (val (seg L k (N - k)) + val P) := by rw [hv]
  rw [Nat.mul_add, Nat.mul_add, ← Nat.mul_assoc, ← hX] at h5
  rw [e1, e2, e3]
  omega

theorem halves_val {M R low high cross l1 l2 : List Nat} {k N carry : Nat} (hk1 : k ≤ l1.length) (hk2 : k ≤ l2.length) (d1 : Dig l1) (d2 : Dig l2) (hN : l1.length + l2.length = N) (hR : R.length = N) (hRv : val R = val low + B64 ^ (2 * k) * val high)
    (hlow : val low = val (l1.take k) * val (l2.take k)) (hhigh : val high = val (l1.drop k) * val (l2.drop k))
    (hcross : val cross = (val (l1.take k) + val (l1.drop k)) * (val (l2.take k) + val (l2.drop k)) - val low - val high)
    (hT : Turned R M k (N - k)) (hv : val (seg M k (N - k)) + B64 ^ (N - k) * carry = val (seg R k (N - k)) + val cross) : val M = val l1 * val l2 := by
  have h1 := add_at (by omega) hR hT hv
  have hc : val cross = val (l1.take k) * val (l2.drop k) + val (l1.drop k) * val (l2.take k) := by
    rw [hcross, hlow, hhigh, Nat.add_mul, Nat.mul_add, Nat.mul_add]
    omega
  have h2 : val l1 * val l2 = val R + B64 ^ k * val cross := by
    rw [hRv, hlow, hhigh, hc, val_drop_take l1 k hk1, val_drop_take l2 k hk2, show 2 * k = k + k from by omega, Nat.pow_add]
    generalize val (l1.take k) = A0
    generalize val (l1.drop k) = A1
    generalize val (l2.take k) = B0
    generalize val (l2.drop k) = B1
    generalize B64 ^ k = X
    simp only [Nat.add_mul, Nat.mul_add, Nat.mul_assoc]
    have p1 : A0 * (X * B1) = X * (A0 * B1) := by ac_rfl
    have p2 : A1 * (X * B1) = X * (A1 * B1) := by ac_rfl
    rw [p1, p2]
    omega
  have h8 : val l1 * val l2 < B64 ^ N := by
    have h1 := val_lt d1
    have h2 := val_lt d2
    rw [← hN, Nat.pow_add]
    by_cases h0 : val l2 = 0
    · rw [h0, Nat.mul_zero]; exact Nat.mul_pos (Nat.pow_pos B64_pos) (Nat.pow_pos B64_pos)
    · exact Nat.lt_of_lt_of_le (Nat.mul_lt_mul_of_pos_right h1 (by omega)) (Nat.mul_le_mul_left _ (Nat.le_of_lt h2))
  rw [← h2] at h1
  exact (no_carry h1 h8).2

/-- Two numbers laid into noughts behind one another. -/
theorem two_laid (low high : List Nat) (k N nh : Nat) (hl : low.length ≤ 2 * k) (hh : high.length = nh) (hN : 2 * k + nh ≤ N) (dl : Dig low) (dh : Dig high) :
    ((pad low N).take (2 * k) ++ (high ++ (pad low N).drop (2 * k + nh))).length = N ∧ Dig ((pad low N).take (2 * k) ++ (high ++ (pad low N).drop (2 * k + nh))) ∧
    val ((pad low N).take (2 * k) ++ (high ++ (pad low N).drop (2 * k + nh))) = val low + B64 ^ (2 * k) * val high := by
  have hp : (pad low N).length = N := pad_length _ _ (by omega)
  have dp := pad_dig dl N
  refine ⟨?_, (dp.take _).append (dh.append (dp.drop _)), ?_⟩
  · rw [List.length_append, List.length_append, List.length_take, List.length_drop, hp, hh]; omega
  · have e1 : (pad low N).take (2 * k) = pad low (2 * k) := by
      unfold pad
      rw [List.take_append, List.take_of_length_le hl, List.take_replicate]
      congr 2
      omega
    have e2 : (pad low N).drop (2 * k + nh) = List.replicate (N - (2 * k + nh)) 0 := by
      unfold pad
      rw [List.drop_append, List.drop_of_length_le (by omega), List.drop_replicate, List.nil_append]
      congr 1
      omega
    rw [val_append, val_append, e1, e2, val_replicate, pad_val, pad_length _ _ hl, Nat.mul_zero, Nat.add_zero]

theorem sum_len {l : List Nat} {x y k : Nat} (hm : Nrm l) (hv : val l = x + y) (hx : x < B64 ^ k) (hy : y < B64 ^ k) : l.length ≤ k + 1 := by
  apply Nat.le_of_not_lt
  intro h
  have h3 := hm.ge (by intro e; subst e; simp at h)
  have h4 : B64 ^ (k + 1) ≤ B64 ^ (l.length - 1) := Nat.pow_le_pow_right B64_pos (by omega)
  rw [Nat.pow_succ] at h4
  have h5 : B64 ^ k * 2 ≤ B64 ^ k * B64 := Nat.mul_le_mul_left _ (by unfold B64; omega)
  omega

/-- What a call on words answers, its length under a name. -/
theorem Num.named {w : World} {v : Value} {x : Nat} (h : Num w v x) : ∃ (ao : Option Addr) (l : List Nat) (n c : Nat), v = .slice ao n c ∧ l.length = n ∧ n ≤ c ∧ c ≤ maxLen ∧ Seg w ao l ∧ Dig l ∧ Nrm l ∧ val l = x := by
  obtain ⟨ao, l, c, h1, h2, h3, h4, h5, h6, h7⟩ := h
  exact ⟨ao, l, l.length, c, h1, rfl, h2, h3, h4, h5, h6, h7⟩

theorem lt_len {l : List Nat} {k : Nat} (hm : Nrm l) (h : val l < B64 ^ k) : l.length ≤ k := by
  apply Nat.le_of_not_lt
  intro hk
  have h3 := hm.ge (by intro e; subst e; simp at hk)
  have h4 : B64 ^ k ≤ B64 ^ (l.length - 1) := Nat.pow_le_pow_right B64_pos (by omega)
  omega

theorem cross_lt {l1 l2 : List Nat} {k T X : Nat} (hk1 : k ≤ l1.length) (hk2 : k ≤ l2.length) (d1 : Dig l1) (d2 : Dig l2) (hT : l1.length + l2.length = k + T) (hX : X = val (l1.take k) * val (l2.drop k) + val (l1.drop k) * val (l2.take k)) : X < B64 ^ T := by
  have h8 : val l1 * val l2 < B64 ^ (k + T) := by
    have h1 := val_lt d1
    have h2 := val_lt d2
    rw [← hT, Nat.pow_add]
    by_cases h0 : val l2 = 0
    · rw [h0, Nat.mul_zero]; exact Nat.mul_pos (Nat.pow_pos B64_pos) (Nat.pow_pos B64_pos)
    · exact Nat.lt_of_lt_of_le (Nat.mul_lt_mul_of_pos_right h1 (by omega)) (Nat.mul_le_mul_left _ (Nat.le_of_lt h2))
  have h2 : B64 ^ k * X ≤ val l1 * val l2 := by
    rw [hX, val_drop_take l1 k hk1, val_drop_take l2 k hk2]
    generalize val (l1.take k) = A0
    generalize val (l1.drop k) = A1
    generalize val (l2.take k) = B0
    generalize val (l2.drop k) = B1
    generalize B64 ^ k = X
    simp only [Nat.add_mul, Nat.mul_add, Nat.mul_assoc]
    have p1 : A0 * (X * B1) = X * (A0 * B1) := by ac_rfl
    rw [p1]
    omega
  rw [Nat.pow_add] at h8
  exact Nat.lt_of_mul_lt_mul_left (Nat.lt_of_le_of_lt h2 h8)

theorem Row.pad {w : World} {g T np : Nat} {p : List Nat} (h : Row w g (List.take 0 (List.replicate T 0) ++ (p ++ List.drop (0 + np) (List.replicate T 0)))) (hp : p.length = np) : Row w g (pad p T) := by
  have e : List.take 0 (List.replicate T 0) ++ (p ++ List.drop (0 + np) (List.replicate T 0)) = Go.Proofs.YtfjbhiihfibbaaaDoor.pad p T := by
    simp [Go.Proofs.YtfjbhiihfibbaaaDoor.pad, hp]
  rw [e] at h; exact h

/-- The front of words, without noughts at its end. -/
theorem front_parts {w : World} {ao : Option Addr} {l : List Nat} {k n : Nat} (hl : l.length = n) (hk : k ≤ n) (hs : Seg w ao l) (hd : Dig l) :
    ∃ (t : List Nat) (m : Nat), nlen (l.take k) = m ∧ t.length = m ∧ m ≤ k ∧ Seg w ao t ∧ Dig t ∧ val t = val (l.take k) := by
  have hnt := nlen_le (l.take k)
  have hlt : (l.take k).length = k := by rw [List.length_take]; omega
  exact ⟨(l.take k).take (nlen (l.take k)), _, rfl, by rw [List.length_take]; omega, by omega, (hs.take k).take _, (hd.take k).take _, val_take_nlen _⟩

end Go.Proofs.YtfjbhiihfibbaaaDoor
