/-
  divLong and divWords: words divided by words, with their rest.
-/
import Derived.Test.YtfjbhiihfibbaaaDoorMDivD

namespace Go.Proofs.YtfjbhiihfibbaaaDoor
open Go.RowKit

/-- One round of the long division, in plain numbers. -/
theorem long_round {M M' Q : List Nat} {j n V A q : Nat} (hV0 : 0 < V) (hVn : V < B64 ^ n) (hM : j + (n + 1) ≤ M.length) (dM : Dig M) (hQ : j < Q.length)
    (hinv : val (Q.drop (j + 1)) * B64 ^ (j + 1) * V + val M = A) (hlt : val M < V * B64 ^ (j + 1)) (hT : Turned M M' j (n + 1))
    (hq : q = val (seg M j (n + 1)) / V) (hr : val (seg M' j (n + 1)) = val (seg M j (n + 1)) % V) :
    val ((Q.set j q).drop j) * B64 ^ j * V + val M' = A ∧ val M' < V * B64 ^ j := by
  have hl : M'.length = M.length := hT.1
  have s1 : ∀ X : List Nat, X.length = M.length → val X = val (seg X 0 j) + B64 ^ j * val (seg X j (n + 1)) + B64 ^ (j + (n + 1)) * val (seg X (j + (n + 1)) (M.length - (j + (n + 1)))) := by
    intro X hX
    have e1 := val_seg_split X 0 (j + (n + 1)) M.length hM (by omega)
    have e2 := val_seg_split X 0 j (j + (n + 1)) (by omega) (by omega)
    rw [show seg X 0 M.length = X from by rw [← hX]; exact seg_all X] at e1
    rw [e2] at e1
    rw [show j + (n + 1) - j = n + 1 from by omega, Nat.zero_add, Nat.zero_add] at e1
    exact e1
  have eM := s1 M rfl
  have eM' := s1 M' hl
  have t0 : seg M' 0 j = seg M 0 j := seg_congr _ _ _ _ hl (fun t _ ht => hT.2 t (by omega))
  have t2 : seg M' (j + (n + 1)) (M.length - (j + (n + 1))) = seg M (j + (n + 1)) (M.length - (j + (n + 1))) := seg_congr _ _ _ _ hl (fun t ht _ => hT.2 t (by omega))
  rw [t0, t2, hr] at eM'
  have hlow : val (seg M 0 j) < B64 ^ j := by
    have h := val_lt (l := seg M 0 j) ((dM.drop 0).take j)
    rwa [seg_length M 0 j (by omega)] at h
  generalize val (seg M 0 j) = lo at *
  generalize val (seg M (j + (n + 1)) (M.length - (j + (n + 1)))) = hi at *
  have hhi : hi = 0 := by
    cases hi with
    | zero => rfl
    | succ k =>
      exfalso
      have h1 : V * B64 ^ (j + 1) ≤ B64 ^ n * B64 ^ (j + 1) := Nat.mul_le_mul_right _ (Nat.le_of_lt hVn)
      rw [← Nat.pow_add, show n + (j + 1) = j + (n + 1) from by omega] at h1
      rw [Nat.mul_add, Nat.mul_one] at eM
      omega
  subst hhi
  have hdm := Nat.div_add_mod (val (seg M j (n + 1))) V
  have hml := Nat.mod_lt (val (seg M j (n + 1))) hV0
  rw [← hq] at hdm
  generalize val (seg M j (n + 1)) = P at *
  generalize P % V = r at *
  constructor
  · rw [drop_set_cons Q j q hQ, val, eM', ← hinv, eM, ← hdm]
    have p : B64 ^ (j + 1) = B64 ^ j * B64 := Nat.pow_succ _ _
    rw [p]
    generalize val (Q.drop (j + 1)) = D
    generalize B64 ^ j = X
    generalize B64 = c
    simp only [Nat.mul_add, Nat.add_mul, Nat.mul_zero]
    have a1 : q * X * V = X * (V * q) := by ac_rfl
    have a2 : c * D * X * V = D * (X * c) * V := by ac_rfl
    omega
  · rw [eM']
    have h1 : B64 ^ j * (r + 1) ≤ B64 ^ j * V := Nat.mul_le_mul_left _ hml
    rw [Nat.mul_add, Nat.mul_comm (B64 ^ j) V] at h1
    omega

theorem seg_lt {M : List Nat} {j n V : Nat} (hM : j + (n + 1) ≤ M.length) (hlt : val M < V * B64 ^ (j + 1)) : val (seg M j (n + 1)) < B64 * V := by
  have e1 := val_seg_split M 0 j M.length (by omega) (by omega)
  rw [show seg M 0 M.length = M from seg_all M, Nat.zero_add] at e1
  have e2 := val_seg_split M j (n + 1) (M.length - j) (by omega) (by omega)
  rw [e2, Nat.mul_add] at e1
  have h1 : B64 ^ j * val (seg M j (n + 1)) < B64 ^ j * (B64 * V) := by
    have : V * B64 ^ (j + 1) = B64 ^ j * (B64 * V) := by rw [Nat.pow_succ]; generalize B64 ^ j = X; generalize B64 = c; ac_rfl
    omega
  exact Nat.lt_of_mul_lt_mul_left h1

/-- The divisor, shifted: as many words, its highest bit set. -/
theorem shifted_top {lb l' : List Nat} {n s y : Nat} (hn : lb.length = n) (h1 : 1 ≤ n) (d' : Dig l') (m' : Nrm l') (db : Dig lb) (hy : lb.getD (n - 1) 0 = y) (hs1 : 9223372036854775808 ≤ y * 2 ^ s) (hs2 : y * 2 ^ s < B64) (hv : val l' = val lb * 2 ^ s) :
    l'.length = n ∧ 9223372036854775808 ≤ l'.getD (n - 1) 0 := by
  have hp : 0 < 2 ^ s := Nat.pow_pos (by omega)
  have e1 := val_take_succ lb (n - 1) (by omega)
  rw [show n - 1 + 1 = n from by omega, ← hn, List.take_length, hn, hy] at e1
  have hlow : val (lb.take (n - 1)) < B64 ^ (n - 1) := by
    have h := val_lt (db.take (n - 1))
    rwa [List.length_take, Nat.min_eq_left (by omega)] at h
  have hX : 0 < B64 ^ (n - 1) := Nat.pow_pos B64_pos
  have hge : B64 ^ (n - 1) * 9223372036854775808 ≤ val l' := by
    rw [hv, e1, Nat.add_mul, Nat.mul_assoc]
    have := Nat.mul_le_mul_left (B64 ^ (n - 1)) hs1
    omega
  have hlt : val l' < B64 ^ n := by
    rw [hv, e1]
    have h2 : val (lb.take (n - 1)) + B64 ^ (n - 1) * y + 1 ≤ B64 ^ (n - 1) * (y + 1) := by rw [Nat.mul_add]; omega
    have h3 : (val (lb.take (n - 1)) + B64 ^ (n - 1) * y + 1) * 2 ^ s ≤ B64 ^ (n - 1) * (y + 1) * 2 ^ s := Nat.mul_le_mul_right _ h2
    have h4 : (y + 1) * 2 ^ s ≤ B64 := by
      have hdvd : B64 = 2 ^ s * (B64 / 2 ^ s) := by
        have hsle : s ≤ 64 := by
          apply Nat.le_of_not_lt; intro hs
          have h5 : (2 : Nat) ^ 64 ≤ 2 ^ s := Nat.pow_le_pow_right (by omega) (by omega)
          have h6 : 1 ≤ y := by
            apply Nat.pos_of_ne_zero; intro h; rw [h] at hs1; omega
          have h7 := Nat.mul_le_mul_right (2 ^ s) h6
          rw [B64_pow] at hs2
          omega
        have : B64 = 2 ^ s * 2 ^ (64 - s) := by rw [← Nat.pow_add, B64_pow]; congr 1; omega
        conv => rhs; rw [this, Nat.mul_div_cancel_left _ hp]
        exact this
      rw [hdvd, Nat.mul_comm]
      rw [hdvd, Nat.mul_comm] at hs2
      exact Nat.mul_le_mul_left _ (Nat.lt_of_mul_lt_mul_left hs2)
    have h5 : B64 ^ (n - 1) * (y + 1) * 2 ^ s ≤ B64 ^ n := by
      rw [Nat.mul_assoc, show B64 ^ n = B64 ^ (n - 1) * B64 from by rw [← Nat.pow_succ]; congr 1; omega]
      exact Nat.mul_le_mul_left _ h4
    rw [Nat.add_mul, Nat.one_mul] at h3
    omega
  have hlen : l'.length = n := by
    apply Nat.le_antisymm
    · apply Nat.le_of_not_lt; intro h
      have h6 := m'.ge (by intro e; subst e; simp at h)
      have h7 : B64 ^ n ≤ B64 ^ (l'.length - 1) := Nat.pow_le_pow_right B64_pos (by omega)
      omega
    · apply Nat.le_of_not_lt; intro h
      have h6 := val_lt d'
      have h7 : B64 ^ l'.length ≤ B64 ^ (n - 1) := Nat.pow_le_pow_right B64_pos (by omega)
      omega
  refine ⟨hlen, ?_⟩
  have e2 := val_take_succ l' (n - 1) (by omega)
  rw [show n - 1 + 1 = n from by omega, ← hlen, List.take_length, hlen] at e2
  have hlow' : val (l'.take (n - 1)) < B64 ^ (n - 1) := by
    have h := val_lt (d'.take (n - 1))
    rwa [List.length_take, Nat.min_eq_left (by omega)] at h
  apply Nat.le_of_not_lt; intro h
  have h8 : B64 ^ (n - 1) * (l'.getD (n - 1) 0 + 1) ≤ B64 ^ (n - 1) * 9223372036854775808 := Nat.mul_le_mul_left _ h
  rw [Nat.mul_add] at h8
  omega

end Go.Proofs.YtfjbhiihfibbaaaDoor

/-
  divLong and divWords: the walks.
-/
namespace Go.Proofs.YtfjbhiihfibbaaaDoor
open Go.RowKit

theorem div_scaled (a b s : Nat) : (a * 2 ^ s) / (b * 2 ^ s) = a / b ∧ (a * 2 ^ s) % (b * 2 ^ s) = a % b * 2 ^ s := by
  have hp : 0 < 2 ^ s := Nat.pow_pos (by omega)
  exact ⟨Nat.mul_div_mul_right _ _ hp, Nat.mul_mod_mul_right _ _ _⟩

/-- The start of the long division: the dividend is below the divisor times the power for all digits. -/
theorem long_start {la l' : List Nat} {n d s : Nat} (hla : la.length = n + d) (dla : Dig la) (hl' : l'.length = n) (h1 : 1 ≤ n) (hs : s ≤ 63) (htop : 9223372036854775808 ≤ l'.getD (n - 1) 0) : val la * 2 ^ s < val l' * B64 ^ (d + 1) := by
  have e2 := val_take_succ l' (n - 1) (by omega)
  rw [show n - 1 + 1 = n from by omega, ← hl', List.take_length, hl'] at e2
  have h3 : B64 ^ (n - 1) * 9223372036854775808 ≤ val l' := by
    rw [e2]
    have := Nat.mul_le_mul_left (B64 ^ (n - 1)) htop
    omega
  have h4 := val_lt dla
  rw [hla] at h4
  have h5 : 2 ^ s ≤ 9223372036854775808 := by
    have : (2 : Nat) ^ s ≤ 2 ^ 63 := Nat.pow_le_pow_right (by omega) hs
    exact this
  have h6 : val la * 2 ^ s < B64 ^ (n + d) * 2 ^ s := Nat.mul_lt_mul_of_pos_right h4 (Nat.pow_pos (by omega))
  have h7 : B64 ^ (n + d) * 2 ^ s ≤ B64 ^ (n + d) * 9223372036854775808 := Nat.mul_le_mul_left _ h5
  have h8 : B64 ^ (n - 1) * 9223372036854775808 * B64 ^ (d + 1) ≤ val l' * B64 ^ (d + 1) := Nat.mul_le_mul_right _ h3
  have h9 : B64 ^ (n - 1) * 9223372036854775808 * B64 ^ (d + 1) = B64 ^ (n + d) * 9223372036854775808 := by
    rw [Nat.mul_right_comm, ← Nat.pow_add]; congr 2; omega
  omega

end Go.Proofs.YtfjbhiihfibbaaaDoor

/-
  divWords: words divided by words, with their rest.
-/
namespace Go.Proofs.YtfjbhiihfibbaaaDoor
open Go.RowKit

/-- A new block of one word. -/
theorem Seg.new1 (w : World) (x : Nat) (e : TypeId) : Seg (w.alloc (.cells #[.int .u64 (x : Nat)] e)) (some ⟨w.heap.size, 0, none⟩) [x] := by
  refine Or.inr ⟨w.heap.size, 0, rfl, by simp, fun t ht => ?_⟩
  have ht0 : t = 0 := by simpa using ht
  subst ht0
  simp

theorem Ext.alloc (w : World) (o : Obj) : Ext w (w.alloc o) := (Below.refl _ _).alloc (Nat.le_refl _) o

end Go.Proofs.YtfjbhiihfibbaaaDoor
