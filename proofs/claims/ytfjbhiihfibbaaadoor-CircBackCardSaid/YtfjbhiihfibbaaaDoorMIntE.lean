/-
  Add and Sub.
-/
import Derived.Test.YtfjbhiihfibbaaaDoorMIntC

namespace Go.Proofs.YtfjbhiihfibbaaaDoor
open Go.RowKit

theorem IsInt.none {w : World} {sm : Int} {n c : Nat} {z : Int} (h : IsInt w sm Option.none n c z) : n = 0 ∧ c = 0 ∧ sm = z ∧ -9223372036854775808 ≤ z ∧ z ≤ 9223372036854775807 := by
  rcases h with ⟨_, h⟩ | ⟨b, o, l, h, _⟩
  · exact h
  · cases h

theorem Fit.neg {k : Nat} {z : Int} (h : Fit k z) : Fit k (-z) := by unfold Fit at *; rw [Int.natAbs_neg]; exact h

end Go.Proofs.YtfjbhiihfibbaaaDoor

/-
  fromPair and Mul.
-/
namespace Go.Proofs.YtfjbhiihfibbaaaDoor
open Go.RowKit

theorem Seg.new2 (w : World) (x y : Nat) (e : TypeId) : Seg (w.alloc (.cells #[.int .u64 (x : Nat), .int .u64 (y : Nat)] e)) (some ⟨w.heap.size, 0, none⟩) [x, y] := by
  refine Or.inr ⟨w.heap.size, 0, rfl, by simp, fun t ht => ?_⟩
  have ht2 : t < 2 := by simpa using ht
  have : t = 0 ∨ t = 1 := by omega
  rcases this with rfl | rfl <;> simp

theorem sgn_mul {z1 z2 : Int} {b1 b2 : Bool} (h1 : z1 = sgn b1 z1.natAbs) (h2 : z2 = sgn b2 z2.natAbs) : sgn (!(b1 == b2)) (z1.natAbs * z2.natAbs) = z1 * z2 := by
  have e : z1 * z2 = sgn b1 z1.natAbs * sgn b2 z2.natAbs := by rw [← h1, ← h2]
  rw [e]
  cases b1 <;> cases b2 <;> simp [sgn, Int.neg_mul, Int.mul_neg]

/-- The sign's Bool, as the program asks for it. -/
theorem IsInt.bool {w : World} {sm : Int} {ao : Option Addr} {n c : Nat} {z : Int} (h : IsInt w sm ao n c z) : z = sgn (decide (sm < 0)) z.natAbs := by
  have h5 := h.sign.1
  by_cases h6 : sm < 0
  · have := h5.1 h6; simp [sgn, h6]; omega
  · have : ¬ z < 0 := fun k => h6 (h5.2 k)
    simp [sgn, h6]; omega

end Go.Proofs.YtfjbhiihfibbaaaDoor

/-
  Cmp.
-/
namespace Go.Proofs.YtfjbhiihfibbaaaDoor
open Go.RowKit

/-- The world behind the boxing of two numbers. -/
structure Boxed2 (w W : World) (x1 y1 x2 y2 : Value) : Prop where
  ext : Ext w W
  size : W.heap.size = w.heap.size + 2
  c0 : W.cell? ⟨w.heap.size, 0, none⟩ = some x1
  c1 : W.cell? ⟨w.heap.size, 1, none⟩ = some y1
  d0 : W.cell? ⟨w.heap.size + 1, 0, none⟩ = some x2
  d1 : W.cell? ⟨w.heap.size + 1, 1, none⟩ = some y2

theorem keepb {w W w' : World} {x y x2 y2 : Value} (h : Ext W w') (hb : Boxed2 w W x y x2 y2) : w'.cell? ⟨w.heap.size, 0, none⟩ = some x ∧ w'.cell? ⟨w.heap.size, 1, none⟩ = some y ∧ w'.cell? ⟨w.heap.size + 1, 0, none⟩ = some x2 ∧ w'.cell? ⟨w.heap.size + 1, 1, none⟩ = some y2 :=
  keep4 h (by have := hb.size; omega) hb.c0 hb.c1 hb.d0 hb.d1

theorem cmp3_sgn (b1 b2 : Bool) (x y : Nat) (hb : b1 ≠ b2) (h1 : b1 = true → 0 < x) (h2 : b2 = true → 0 < y) : cmp3 (cmp3 (sgn b1 x) 0) (cmp3 (sgn b2 y) 0) = cmp3 (sgn b1 x) (sgn b2 y) := by
  cases b1 <;> cases b2
  · exact absurd rfl hb
  · have := h2 rfl
    have e2 : cmp3 (sgn true y) 0 = -1 := cmp3_lt (by simp [sgn]; omega)
    rw [e2, cmp3_gt (x := sgn false x) (y := sgn true y) (by simp [sgn]; omega)]
    unfold cmp3; simp [sgn]; split <;> omega
  · have := h1 rfl
    have e1 : cmp3 (sgn true x) 0 = -1 := cmp3_lt (by simp [sgn]; omega)
    rw [e1, cmp3_lt (x := sgn true x) (y := sgn false y) (by simp [sgn]; omega)]
    unfold cmp3; simp [sgn]; split <;> omega
  · exact absurd rfl hb

theorem cmp3_same (b : Bool) (x y : Nat) : cmp3 (sgn b x) (sgn b y) = (if b then cmp3 (y : Int) (x : Int) else cmp3 (x : Int) (y : Int)) := by
  cases b
  · simp [sgn]
  · simp only [sgn, if_true]
    unfold cmp3
    split <;> split <;> (try split) <;> (try split) <;> omega

end Go.Proofs.YtfjbhiihfibbaaaDoor
