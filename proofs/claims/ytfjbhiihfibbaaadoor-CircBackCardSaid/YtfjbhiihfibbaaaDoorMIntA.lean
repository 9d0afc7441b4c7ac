/-
  Integers as the program keeps them, and the small calls on them.
-/
import Derived.Test.YtfjbhiihfibbaaaDoorMDivL
import Derived.Laws.ResultCell

namespace Go.Proofs.YtfjbhiihfibbaaaDoor
open Go.RowKit

/-- The two cells of a number hold z. -/
def IsInt (w : World) (sm : Int) (ao : Option Addr) (n c : Nat) (z : Int) : Prop :=
  (ao = none ∧ n = 0 ∧ c = 0 ∧ sm = z ∧ -9223372036854775808 ≤ z ∧ z ≤ 9223372036854775807) ∨
  (∃ (b o : Nat) (l : List Nat), ao = some ⟨b, o, none⟩ ∧ l.length = n ∧ n ≤ c ∧ c ≤ maxLen ∧ Seg w (some ⟨b, o, none⟩) l ∧ Dig l ∧ Nrm l ∧ ((sm = -1 ∧ z = -(val l : Int) ∧ 9223372036854775808 < val l) ∨ (sm = 1 ∧ z = (val l : Int) ∧ 9223372036854775807 < val l)))

theorem IsInt.ext {w w' : World} {sm : Int} {ao : Option Addr} {n c : Nat} {z : Int} (h : IsInt w sm ao n c z) (k : Ext w w') : IsInt w' sm ao n c z := by
  rcases h with h | ⟨b, o, l, h1, h2, h3, h4, h5, h6⟩
  · exact Or.inl h
  · exact Or.inr ⟨b, o, l, h1, h2, h3, h4, h5.ext k, h6⟩

theorem IsInt.small (w : World) (z : Int) (h1 : -9223372036854775808 ≤ z) (h2 : z ≤ 9223372036854775807) : IsInt w z none 0 0 z := Or.inl ⟨rfl, rfl, rfl, rfl, h1, h2⟩

/-- The sign stands in the first cell. -/
theorem IsInt.sign {w : World} {sm : Int} {ao : Option Addr} {n c : Nat} {z : Int} (h : IsInt w sm ao n c z) : (sm < 0 ↔ z < 0) ∧ (sm = 0 ↔ z = 0) ∧ -9223372036854775808 ≤ sm ∧ sm ≤ 9223372036854775807 := by
  rcases h with ⟨_, _, _, rfl, h1, h2⟩ | ⟨b, o, l, _, _, _, _, _, _, _, ⟨rfl, rfl, h⟩ | ⟨rfl, rfl, h⟩⟩ <;> omega

theorem IsInt.cast {w : World} {sm : Int} {ao : Option Addr} {n c : Nat} {z z' : Int} (h : IsInt w sm ao n c z) (e : z = z') : IsInt w sm ao n c z' := e ▸ h

/-- At most k words. -/
def Fit (k : Nat) (z : Int) : Prop := z.natAbs < B64 ^ k

theorem IsInt.len {w : World} {sm : Int} {ao : Option Addr} {n c : Nat} {z : Int} (h : IsInt w sm ao n c z) {k : Nat} (hf : Fit k z) : n ≤ k := by
  rcases h with ⟨_, rfl, _⟩ | ⟨b, o, l, _, rfl, _, _, _, d, m, hz⟩
  · exact Nat.zero_le _
  · have hv : val l < B64 ^ k := by
      unfold Fit at hf
      rcases hz with ⟨_, rfl, _⟩ | ⟨_, rfl, _⟩ <;> omega
    apply Nat.le_of_not_lt
    intro hk
    have h1 := m.ge (by intro e; subst e; simp at hk)
    have h2 : B64 ^ k ≤ B64 ^ (l.length - 1) := Nat.pow_le_pow_right B64_pos (by omega)
    omega

end Go.Proofs.YtfjbhiihfibbaaaDoor

/-
  fromWord and fromWords: numbers made of their sizes.
-/
namespace Go.Proofs.YtfjbhiihfibbaaaDoor
open Go.RowKit

/-- The number with this sign and this size. -/
def sgn (neg : Bool) (x : Nat) : Int := if neg then -(x : Int) else (x : Int)

/-- An int holds it. -/
def fits (neg : Bool) (x : Nat) : Bool := if neg then decide (x ≤ 9223372036854775808) else decide (x ≤ 9223372036854775807)

theorem fits_iff (neg : Bool) (x : Nat) : fits neg x = true ↔ (-9223372036854775808 ≤ sgn neg x ∧ sgn neg x ≤ 9223372036854775807) := by
  cases neg <;> simp [fits, sgn] <;> omega

/-- A result of two cells, laid where the call made room for it first. -/
theorem Ext.res {w w5 : World} {o0 : Obj} (he : Ext (w.alloc o0) w5) (u v : Value) : Ext w ((w5.setCell ⟨w.heap.size, 0, none⟩ u).setCell ⟨w.heap.size, 1, none⟩ v) :=
  (((Ext.alloc w o0).trans he).setCell (Nat.le_refl _) u).setCell (Nat.le_refl _) v

theorem Ext.then {w w1 : World} (he : Ext w w1) (o : Obj) : Ext w (w1.alloc o) := he.trans (Ext.alloc _ _)

/-- A long number of words. -/
theorem IsInt.long {w : World} {neg : Bool} {b o c : Nat} {l : List Nat} (hs : Seg w (some ⟨b, o, none⟩) l) (hd : Dig l) (hm : Nrm l) (hc : l.length ≤ c) (hcm : c ≤ maxLen) (hf : fits neg (val l) = false) :
    IsInt w (if neg then -1 else 1) (some ⟨b, o, none⟩) l.length c (sgn neg (val l)) := by
  refine Or.inr ⟨b, o, l, rfl, rfl, hc, hcm, hs, hd, hm, ?_⟩
  cases neg
  · right; simp [fits] at hf; simp [sgn]; omega
  · left; simp [fits] at hf; simp [sgn]; omega

end Go.Proofs.YtfjbhiihfibbaaaDoor
