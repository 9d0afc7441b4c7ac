/-
  shiftInto: words times a power of two, laid into noughts.
-/
import Derived.Test.YtfjbhiihfibbaaaDoorMAdd
import Derived.Laws.Bits64b

namespace Go.Proofs.YtfjbhiihfibbaaaDoor
open Go.RowKit

theorem B64_pow : B64 = 2 ^ 64 := rfl

/-- A word times a power of two, above what was left of the word below: as the walk spells it. -/
theorem shl_ex (x y s : Nat) (hx : x < B64) (hs : s ≤ 63) (hy : y < 2 ^ s) : ∃ z q : Nat, z < B64 ∧ q < 2 ^ s ∧ Hid (z + B64 * q = y + x * 2 ^ s) ∧
    bits .or .u64 (y : Int) (IntKind.u64.wrap ((x : Int) * 2 ^ s)) = (z : Int) ∧ (x : Int) / 2 ^ (64 - s) = (q : Int) := by
  have hsplit : B64 = 2 ^ s * 2 ^ (64 - s) := by rw [← Nat.pow_add, B64_pow]; congr 1; omega
  have hp : 0 < 2 ^ s := Nat.pow_pos (by omega)
  have hp2 : 0 < 2 ^ (64 - s) := Nat.pow_pos (by omega)
  have hm : x * 2 ^ s % B64 = 2 ^ s * (x % 2 ^ (64 - s)) := by
    rw [hsplit, Nat.mul_comm x, Nat.mul_mod_mul_left]
  have hq : x * 2 ^ s / B64 = x / 2 ^ (64 - s) := by
    rw [hsplit, Nat.mul_comm x, Nat.mul_div_mul_left _ _ hp]
  have hor : y ||| x * 2 ^ s % B64 = y + x * 2 ^ s % B64 := by
    rw [hm, Nat.or_comm, ← Nat.two_pow_add_eq_or_of_lt hy, Nat.add_comm]
  have hlt : y + x * 2 ^ s % B64 < B64 := by
    rw [hm]
    have h1 : x % 2 ^ (64 - s) < 2 ^ (64 - s) := Nat.mod_lt _ hp2
    have h2 : 2 ^ s * (x % 2 ^ (64 - s) + 1) ≤ 2 ^ s * 2 ^ (64 - s) := Nat.mul_le_mul_left _ h1
    rw [Nat.mul_add, ← hsplit] at h2
    omega
  refine ⟨y + x * 2 ^ s % B64, x / 2 ^ (64 - s), hlt, ?_, ?_, ?_, ?_⟩
  · rw [Nat.div_lt_iff_lt_mul hp2, ← hsplit]; exact hx
  · show _ + B64 * _ = _
    rw [← hq]
    have := Nat.div_add_mod (x * 2 ^ s) B64
    omega
  · have e : IntKind.u64.wrap ((x : Int) * 2 ^ s) = ((x * 2 ^ s % B64 : Nat) : Int) := by
      rw [IntKind.wrap_u64]
      have : (x : Int) * 2 ^ s = ((x * 2 ^ s : Nat) : Int) := by simp [Int.natCast_mul, Int.natCast_pow]
      rw [this, B64_eq]
      omega
    have hyB : y < 18446744073709551616 := by have := hlt; rw [B64_eq] at this; omega
    have hmB : x * 2 ^ s % B64 < 18446744073709551616 := Nat.mod_lt _ (by omega)
    rw [e, bits_or_u64_nat _ _ hyB hmB, hor]
  · have : ((2 : Int) ^ (64 - s)) = ((2 ^ (64 - s) : Nat) : Int) := by simp [Int.natCast_pow]
    rw [this]
    exact (Int.natCast_ediv _ _).symm

theorem seg_set_out (M : List Nat) (o n i x : Nat) (h : i < o ∨ o + n ≤ i) : seg (M.set i x) o n = seg M o n :=
  seg_congr _ _ _ _ (by rw [List.length_set]) (fun t _ ht => getD_set_ne _ _ _ _ (by omega))

theorem shift_step {M : List Nat} {o k x y z q s : Nat} (hk : o + k + 1 < M.length) (hy : M.getD (o + k) 0 = y) (hz : z + B64 * q = y + x * 2 ^ s) (X : Nat) (hinv : val (seg M o (k + 1)) = X) :
    val (seg ((M.set (o + k) z).set (o + (k + 1)) q) o (k + 2)) = X + B64 ^ k * (x * 2 ^ s) := by
  rw [val_seg_succ _ o (k + 1) (by rw [List.length_set, List.length_set]; omega), getD_set_eq _ _ _ (by rw [List.length_set]; omega), seg_set_out _ _ _ _ _ (by omega)]
  rw [val_seg_succ _ o k (by rw [List.length_set]; omega), getD_set_eq _ _ _ (by omega), seg_set_out _ _ _ _ _ (by omega)]
  rw [val_seg_succ M o k (by omega), hy] at hinv
  rw [pow_split]
  have e : B64 ^ k * (z + B64 * q) = B64 ^ k * (y + x * 2 ^ s) := by rw [hz]
  rw [Nat.mul_add, Nat.mul_add] at e
  omega

end Go.Proofs.YtfjbhiihfibbaaaDoor

/-
  shiftUp and shiftDown: words times and over a power of two.
-/
namespace Go.Proofs.YtfjbhiihfibbaaaDoor
open Go.RowKit

theorem val_zeros_ahead (L M : List Nat) (sk n : Nat) (hL : L = List.replicate (sk + n) 0) (hT : Turned L M sk n) : val M = B64 ^ sk * val (seg M sk n) := by
  have hl : M.length = sk + n := by rw [hT.1, hL]; simp
  have e1 := val_seg_split M 0 sk (sk + n) (by omega) (by omega)
  rw [show seg M 0 (sk + n) = M from by rw [← hl]; exact seg_all M] at e1
  have e2 : seg M 0 sk = seg L 0 sk := seg_congr _ _ _ _ hT.1 (fun t _ ht => hT.2 t (by omega))
  have e3 : seg L 0 sk = List.replicate sk 0 := by rw [hL]; simp [seg]
  rw [e1, e2, e3, val_replicate, Nat.zero_add, Nat.zero_add]
  congr 3
  omega

/-- What comes down from the next word: as the walk spells it. -/
theorem shr_ex (x y s : Nat) (hx : x < B64) (hs : s ≤ 63) (hy : y < 2 ^ (64 - s)) : ∃ z q r : Nat, z < B64 ∧ q < 2 ^ (64 - s) ∧ r < 2 ^ s ∧ Hid (x = 2 ^ s * q + r) ∧ Hid (z = y + r * 2 ^ (64 - s)) ∧
    bits .or .u64 (y : Int) (IntKind.u64.wrap ((x : Int) * 2 ^ (64 - s))) = (z : Int) ∧ (x : Int) / 2 ^ s = (q : Int) := by
  have hsplit : B64 = 2 ^ (64 - s) * 2 ^ s := by rw [← Nat.pow_add, B64_pow]; congr 1; omega
  have hp : 0 < 2 ^ s := Nat.pow_pos (by omega)
  have hp2 : 0 < 2 ^ (64 - s) := Nat.pow_pos (by omega)
  have hm : x * 2 ^ (64 - s) % B64 = 2 ^ (64 - s) * (x % 2 ^ s) := by
    rw [hsplit, Nat.mul_comm x, Nat.mul_mod_mul_left]
  have hor : y ||| x * 2 ^ (64 - s) % B64 = y + x * 2 ^ (64 - s) % B64 := by
    rw [hm, Nat.or_comm, ← Nat.two_pow_add_eq_or_of_lt hy, Nat.add_comm]
  have hlt : y + x * 2 ^ (64 - s) % B64 < B64 := by
    rw [hm]
    have h1 : x % 2 ^ s < 2 ^ s := Nat.mod_lt _ hp
    have h2 : 2 ^ (64 - s) * (x % 2 ^ s + 1) ≤ 2 ^ (64 - s) * 2 ^ s := Nat.mul_le_mul_left _ h1
    rw [Nat.mul_add, ← hsplit] at h2
    omega
  refine ⟨y + x * 2 ^ (64 - s) % B64, x / 2 ^ s, x % 2 ^ s, hlt, ?_, Nat.mod_lt _ hp, ?_, ?_, ?_, ?_⟩
  · rw [Nat.div_lt_iff_lt_mul hp, ← hsplit]; exact hx
  · exact (Nat.div_add_mod x (2 ^ s)).symm
  · show _ = _
    rw [hm, Nat.mul_comm]
  · have e : IntKind.u64.wrap ((x : Int) * 2 ^ (64 - s)) = ((x * 2 ^ (64 - s) % B64 : Nat) : Int) := by
      rw [IntKind.wrap_u64]
      have : (x : Int) * 2 ^ (64 - s) = ((x * 2 ^ (64 - s) : Nat) : Int) := by simp [Int.natCast_mul, Int.natCast_pow]
      rw [this, B64_eq]
      omega
    have hyB : y < 18446744073709551616 := by have := hlt; rw [B64_eq] at this; omega
    have hmB : x * 2 ^ (64 - s) % B64 < 18446744073709551616 := Nat.mod_lt _ (by omega)
    rw [e, bits_or_u64_nat _ _ hyB hmB, hor]
  · have : ((2 : Int) ^ s) = ((2 ^ s : Nat) : Int) := by simp [Int.natCast_pow]
    rw [this]
    exact (Int.natCast_ediv _ _).symm

/-- One word more, from below: what is left over stays. -/
theorem down_step {M : List Nat} {k x y z q r s V R : Nat} (hs : s ≤ 63) (hk : k + 1 < M.length) (hy : M.getD k 0 = y) (hx : x = 2 ^ s * q + r) (hz : z = y + r * 2 ^ (64 - s)) (hinv : V = 2 ^ s * val (seg M 0 (k + 1)) + R) :
    V + B64 ^ (k + 1) * x = 2 ^ s * val (seg ((M.set (k + 1) q).set k z) 0 (k + 1 + 1)) + R := by
  have hsplit : B64 = 2 ^ s * 2 ^ (64 - s) := by rw [← Nat.pow_add, B64_pow]; congr 1; omega
  have e0 : val (seg ((M.set (k + 1) q).set k z) 0 (k + 1 + 1)) = val (seg M 0 k) + B64 ^ k * z + B64 ^ (k + 1) * q := by
    rw [val_seg_succ _ 0 (k + 1) (by rw [List.length_set, List.length_set]; omega), Nat.zero_add, getD_set_ne _ _ _ _ (by omega), getD_set_eq _ _ _ (by omega)]
    rw [val_seg_succ _ 0 k (by rw [List.length_set, List.length_set]; omega), Nat.zero_add, getD_set_eq _ _ _ (by rw [List.length_set]; omega)]
    rw [seg_set_out _ _ _ _ _ (by omega), seg_set_out _ _ _ _ _ (by omega)]
  rw [val_seg_succ M 0 k (by omega), Nat.zero_add, hy] at hinv
  rw [e0, hinv, hz, hx]
  have e1 : 2 ^ s * (B64 ^ k * (r * 2 ^ (64 - s))) = B64 ^ (k + 1) * r := by
    have e : 2 ^ s * (B64 ^ k * (r * 2 ^ (64 - s))) = B64 ^ k * (2 ^ s * 2 ^ (64 - s)) * r := by
      generalize 2 ^ s = p
      generalize 2 ^ (64 - s) = p'
      generalize B64 ^ k = bk
      ac_rfl
    rw [e, ← hsplit, Nat.pow_succ]
  simp only [Nat.mul_add, e1]
  have e2 : B64 ^ (k + 1) * (2 ^ s * q) = 2 ^ s * (B64 ^ (k + 1) * q) := Nat.mul_left_comm _ _ _
  omega

theorem shiftDown_val (la : List Nat) (sk by' sh R V : Nat) (hsk : sk ≤ la.length) (hsh : sh = 64 * sk + by') (dl : Dig la) (hinv : val (la.drop sk) = 2 ^ by' * V + R) (hR : R < 2 ^ by') : V = val la / 2 ^ sh := by
  have hp : 0 < 2 ^ by' := Nat.pow_pos (by omega)
  have e : 2 ^ sh = B64 ^ sk * 2 ^ by' := by rw [hsh, B64_pow, ← Nat.pow_mul, Nat.pow_add]
  rw [e, ← Nat.div_div_eq_div_mul, val_drop_take la sk hsk, Nat.add_mul_div_left _ _ (Nat.pow_pos B64_pos)]
  have h := val_lt (dl.take sk)
  rw [List.length_take, Nat.min_eq_left hsk] at h
  rw [Nat.div_eq_of_lt h, Nat.zero_add, hinv, Nat.mul_add_div hp, Nat.div_eq_of_lt hR, Nat.add_zero]

theorem drop_getD (la : List Nat) (sk t : Nat) : (la.drop sk).getD t 0 = la.getD (sk + t) 0 := by
  rw [List.getD_eq_getElem?_getD, List.getD_eq_getElem?_getD, List.getElem?_drop]

theorem Num.nil (w : World) : Num w (.slice none 0 0) 0 := ⟨none, [], 0, rfl, Nat.le_refl _, Nat.zero_le _, Or.inl ⟨rfl, rfl⟩, Dig.nil, Nrm.nil, rfl⟩

end Go.Proofs.YtfjbhiihfibbaaaDoor
