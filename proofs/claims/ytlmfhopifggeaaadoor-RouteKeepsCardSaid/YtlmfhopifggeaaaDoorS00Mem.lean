/-
  The numbers of circuits in plain numbers: a sum of multiples of z^0 to z^7 with z^8 = -1, as a function of the power that turns its sign each eight steps; sum, product, mirror, turn; which laws they keep. Nothing of the program stands here. The numbers of circuits in plain numbers: a sum of powers of z over a power of two; when two are one number; sums, products, mirrors, turns of them; the one way in which each is kept. Nothing of the program stands here. The root of two times a number of circuits, over and over, in plain numbers: how often till nothing is below. Nothing of the program stands here. A power of z taken by its low bits: k & 7 and k & 8 at any int. Nothing of the program stands here. What memory holds, said of words: a slice that is read (Seg), a block of words that is written (Row), and what a call leaves as it was (Ext, Only).
-/
import Derived.WalkKit
import Derived.WalkLawsBesides
import Derived.WalkSpells
namespace Go.Proofs.YtlmfhopifggeaaaDoor

def Anti (a : Int → Int) : Prop := ∀ k, a (k + 8) = -a k

theorem Anti.back {a : Int → Int} (h : Anti a) (k : Int) : a (k - 8) = -a k := by
  have := h (k - 8); rw [show k - 8 + 8 = k by omega] at this; omega
/-- What the eight first values are decides all. -/
theorem Anti.ext {a b : Int → Int} (ha : Anti a) (hb : Anti b) (h : ∀ j : Int, 0 ≤ j → j < 8 → a j = b j) : a = b := by
  have up : ∀ m : Nat, ∀ j : Int, 0 ≤ j → j < 8 → a (j + 8 * m) = b (j + 8 * m) ∧ a (j - 8 * m) = b (j - 8 * m) := by
    intro m
    induction m with
    | zero => intro j h0 h1; simp [h j h0 h1]
    | succ m ih =>
      intro j h0 h1
      obtain ⟨i1, i2⟩ := ih j h0 h1
      rw [show j + 8 * ((m + 1 : Nat) : Int) = j + 8 * m + 8 by omega, show j - 8 * ((m + 1 : Nat) : Int) = j - 8 * m - 8 by omega, ha, hb, ha.back, hb.back, i1, i2]
      exact ⟨rfl, rfl⟩
  funext k
  by_cases hk : 0 ≤ k
  · have := (up (k / 8).toNat (k % 8) (by omega) (by omega)).1
    rwa [show k % 8 + 8 * (((k / 8).toNat : Nat) : Int) = k by omega] at this
  · have := (up (-(k / 8)).toNat (k % 8) (by omega) (by omega)).2
    rwa [show k % 8 - 8 * (((-(k / 8)).toNat : Nat) : Int) = k by omega] at this
theorem anti_zero : Anti fun _ => 0 := fun _ => rfl
def addR (a b : Int → Int) : Int → Int := fun k => a k + b k
def trR (m : Int) (a : Int → Int) : Int → Int := fun k => a (k - m)
def negR (a : Int → Int) : Int → Int := fun k => -a k
/-- 1. -/
def oneR : Int → Int := fun k => if k % 16 = 0 then 1 else if k % 16 = 8 then -1 else 0

theorem anti_one : Anti oneR := fun k => by unfold oneR; repeat (split); all_goals omega
theorem Anti.add {a b : Int → Int} (ha : Anti a) (hb : Anti b) : Anti (addR a b) := fun k => by unfold addR; rw [ha, hb]; omega
theorem Anti.neg {a : Int → Int} (ha : Anti a) : Anti (negR a) := fun k => by unfold negR; rw [ha]
theorem Anti.tr {a : Int → Int} (ha : Anti a) (m : Int) : Anti (trR m a) := fun k => by
  unfold trR
  rw [show k + 8 - m = k - m + 8 by omega, ha]

end Go.Proofs.YtlmfhopifggeaaaDoor
namespace Go.Proofs.YtlmfhopifggeaaaDoor

/-- A sum over 2^e. -/
structure Nm where
  a : Int → Int
  e : Nat

/-- One number. -/
def EqN (x y : Nm) : Prop := ∀ k, x.a k * 2 ^ y.e = y.a k * 2 ^ x.e

theorem two_ne (n : Nat) : (2 : Int) ^ n ≠ 0 := Int.ne_of_gt (Int.pow_pos (by decide))
theorem EqN.refl (x : Nm) : EqN x x := fun _ => rfl
theorem EqN.symm {x y : Nm} (h : EqN x y) : EqN y x := fun k => (h k).symm
theorem EqN.trans {x y z : Nm} (h : EqN x y) (g : EqN y z) : EqN x z := fun k => by
  have h1 := h k; have g1 := g k
  have : x.a k * 2 ^ z.e * 2 ^ y.e = z.a k * 2 ^ x.e * 2 ^ y.e := by grind
  exact Int.eq_of_mul_eq_mul_right (two_ne _) this
theorem EqN.of_eq {x y : Nm} (h : x = y) : EqN x y := h ▸ EqN.refl x
def nAdd (x y : Nm) : Nm := ⟨fun k => x.a k * 2 ^ y.e + y.a k * 2 ^ x.e, x.e + y.e⟩
def nTr (m : Int) (x : Nm) : Nm := ⟨trR m x.a, x.e⟩
def nNeg (x : Nm) : Nm := ⟨negR x.a, x.e⟩
def nOne : Nm := ⟨oneR, 0⟩
theorem EqN.add {x x' y y' : Nm} (h : EqN x x') (g : EqN y y') : EqN (nAdd x y) (nAdd x' y') := fun k => by
  have h1 := h k; have g1 := g k
  simp only [nAdd, Int.pow_add]
  grind
theorem EqN.neg {x x' : Nm} (h : EqN x x') : EqN (nNeg x) (nNeg x') := fun k => by
  have := h k
  simp only [nNeg, negR, Int.neg_mul, this]

/-! The laws. -/
/-! The one way. -/
/-- Kept as it must be: over 1, or one of the multiples is odd. -/
def Low (x : Nm) : Prop := x.e = 0 ∨ ∃ k, x.a k % 2 = 1
theorem low_le {x y : Nm} (hx : Low x) (h : EqN x y) : x.e ≤ y.e := by
  rcases hx with h0 | ⟨k, hk⟩
  · omega
  · apply Nat.le_of_not_lt
    intro hlt
    have h1 := h k
    obtain ⟨d, hd⟩ : ∃ d, x.e = y.e + (d + 1) := ⟨x.e - y.e - 1, by omega⟩
    rw [hd, Int.pow_add, ← Int.mul_assoc, Int.mul_assoc (y.a k), Int.mul_comm (2 ^ y.e), ← Int.mul_assoc] at h1
    have h2 := Int.eq_of_mul_eq_mul_right (two_ne _) h1
    rw [Int.pow_succ, ← Int.mul_assoc] at h2
    omega
theorem low_one {x y : Nm} (hx : Low x) (hy : Low y) (h : EqN x y) : x = y := by
  have he : x.e = y.e := Nat.le_antisymm (low_le hx h) (low_le hy h.symm)
  obtain ⟨a, e⟩ := x
  obtain ⟨b, f⟩ := y
  simp only at he
  subst he
  congr 1
  funext k
  exact Int.eq_of_mul_eq_mul_right (two_ne e) (h k)
end Go.Proofs.YtlmfhopifggeaaaDoor
namespace Go.Proofs.YtlmfhopifggeaaaDoor

/-- The root of two times a row. -/
def sqR (a : Int → Int) : Int → Int := fun k => a (k - 2) - a (k - 6)
def nSq (x : Nm) : Nm := ⟨sqR x.a, x.e⟩
theorem n_sq (x : Nm) : EqN (nAdd (nTr 2 x) (nNeg (nTr 6 x))) (nSq x) := fun k => by
  simp only [nAdd, nTr, nNeg, negR, trR, nSq, sqR, Int.pow_add]
  grind
theorem sqR_add {a : Int → Int} (h : Anti a) : sqR a = addR (trR 2 a) (trR (-2) a) := by
  funext k
  have h1 := h.back (k + 2)
  unfold sqR addR trR
  rw [show k - 6 = k + 2 - 8 by omega, h1, show k - -2 = k + 2 by omega]
  omega
end Go.Proofs.YtlmfhopifggeaaaDoor
namespace Go.Proofs.YtlmfhopifggeaaaDoor

theorem ofInt_toNat (k : Int) : ((BitVec.ofInt 64 k).toNat : Int) = k % 18446744073709551616 := by
  rw [BitVec.toNat_ofInt]; omega
/-- z^k times n, as a sum. -/
def mono (k n : Int) : Int → Int := fun j => if (j - k) % 16 = 0 then n else if (j - k) % 16 = 8 then -n else 0
theorem anti_mono (k n : Int) : Anti (mono k n) := fun j => by unfold mono; repeat (split); all_goals omega
theorem mono_tr (k : Int) : mono k 1 = trR k oneR := by
  funext j; unfold mono trR oneR; rfl
end Go.Proofs.YtlmfhopifggeaaaDoor
namespace Go.Proofs.YtlmfhopifggeaaaDoor
open Go.RowKit

/-- Nothing that was there has turned. -/
abbrev Ext (w w' : World) : Prop := Below w.heap.size w w'

theorem Ext.refl (w : World) : Ext w w := Below.refl _ _
theorem Ext.trans {a b c : World} (h : Ext a b) (k : Ext b c) : Ext a c := Below.trans h (Below.mono k h.size)

/-- Only block b has turned. -/
structure Only (b : Nat) (w w' : World) : Prop where
  os : w'.os = w.os
  tape : w'.tape = w.tape
  output : w'.output = w.output
  size : w'.heap.size = w.heap.size
  block : ∀ k, k ≠ b → w'.heap[k]? = w.heap[k]?

theorem Only.refl (b : Nat) (w : World) : Only b w w := ⟨rfl, rfl, rfl, rfl, fun _ _ => rfl⟩
theorem Only.trans {b : Nat} {a c d : World} (h : Only b a c) (k : Only b c d) : Only b a d :=
  ⟨k.os.trans h.os, k.tape.trans h.tape, k.output.trans h.output, k.size.trans h.size, fun i hi => (k.block i hi).trans (h.block i hi)⟩
theorem Only.drew {b : Nat} {a c : World} (h : Only b a c) : Only b a c.drew := ⟨h.os, h.tape, h.output, h.size, h.block⟩
theorem Only.below {b N : Nat} {a c : World} (h : Only b a c) (hb : N ≤ b) : Below N a c :=
  ⟨h.os, h.tape, h.output, by rw [h.size]; exact Nat.le_refl _, fun k hk => h.block k (by omega)⟩
theorem Only.setCell {b : Nat} {a w : World} (h : Only b a w) (o : Nat) (u : Value) : Only b a (w.setCell ⟨b, o, none⟩ u) :=
  h.trans ⟨rfl, rfl, rfl, by simp [World.setCell], fun k hk => Below.heap_setCell _ _ _ _ hk⟩

end Go.Proofs.YtlmfhopifggeaaaDoor
