/-
  The reference's numbers: dsub.
-/
import Derived.Test.YtfjbhiihfibbaaaDoorMZA
import Derived.Deep.RegionHeld3

namespace Go.Proofs.YtfjbhiihfibbaaaDoor
open Go.RowKit

theorem zsub_step {l la lb : List Nat} {k c c' x y dg : Nat} (hl : l.length = k) (hx : zval (la.take (k + 1)) = zval (la.take k) + 10000 ^ k * x) (hy : zval (lb.take (k + 1)) = zval (lb.take k) + 10000 ^ k * y) (h : zval l + zval (lb.take k) = zval (la.take k) + 10000 ^ k * c) (hd : dg + c + y = x + 10000 * c') :
    zval (l ++ [dg]) + zval (lb.take (k + 1)) = zval (la.take (k + 1)) + 10000 ^ (k + 1) * c' := by
  rw [zval_snoc, hl, hx, hy, Nat.pow_succ]
  have e2 : 10000 ^ k * (dg + c + y) = 10000 ^ k * (x + 10000 * c') := by rw [hd]
  rw [Nat.mul_add, Nat.mul_add, Nat.mul_add, ← Nat.mul_assoc] at e2
  omega

end Go.Proofs.YtfjbhiihfibbaaaDoor

/-
  The reference's numbers: ZNeg, ZAdd, ZSub, ZCmp.
-/
namespace Go.Proofs.YtfjbhiihfibbaaaDoor
open Go.RowKit

theorem zKeep {W w' : World} (h : Ext W w') {b o : Nat} {v : Value} (hb : b < W.heap.size) (hc : W.cell? ⟨b, o, none⟩ = some v) : w'.cell? ⟨b, o, none⟩ = some v := (h.cell (p := ⟨b, o, none⟩) hb).trans hc
theorem zPut {w' : World} {g o' b o : Nat} {u v : Value} (hne : b ≠ g) (hc : w'.cell? ⟨b, o, none⟩ = some v) : (w'.setCell ⟨g, o', none⟩ u).cell? ⟨b, o, none⟩ = some v := by
  have hO : Only g w' (w'.setCell ⟨g, o', none⟩ u) := (Only.refl _ _).setCell _ _
  exact (World.cell?_of_block (a := ⟨b, o, none⟩) (hO.block _ hne)).trans hc
theorem zput2 {w W : World} {g : Nat} (h : Ext w W) (hg : w.heap.size ≤ g) (u v : Value) : Ext w ((W.setCell ⟨g, 0, none⟩ u).setCell ⟨g, 1, none⟩ v) := (Below.setCell h (p := ⟨g, 0, none⟩) hg u).setCell (p := ⟨g, 1, none⟩) hg v

/-- A variable that holds a number of the reference. -/
structure ZBx (W : World) (g : Nat) (b : Bool) (a : Option Addr) (n c : Nat) : Prop where
  row : W.heap[g]? = some (.cells #[.bool b, .slice a n c] 94 (0, 0))
theorem ZBx.lt {W : World} {g : Nat} {b : Bool} {a : Option Addr} {n c : Nat} (h : ZBx W g b a n c) : g < W.heap.size := (Array.getElem?_eq_some_iff.1 h.row).1
theorem ZBx.ext {W W' : World} {g : Nat} {b : Bool} {a : Option Addr} {n c : Nat} (h : ZBx W g b a n c) (k : Ext W W') : ZBx W' g b a n c := ⟨(k.block _ h.lt).trans h.row⟩
theorem ZBx.c0 {W : World} {g : Nat} {b : Bool} {a : Option Addr} {n c : Nat} (h : ZBx W g b a n c) : W.cell? ⟨g, 0, none⟩ = some (.bool b) := by rw [cell_of_row W g 0 _ _ (0, 0) h.row]; rfl
theorem ZBx.c1 {W : World} {g : Nat} {b : Bool} {a : Option Addr} {n c : Nat} (h : ZBx W g b a n c) : W.cell? ⟨g, 1, none⟩ = some (.slice a n c) := by rw [cell_of_row W g 1 _ _ (0, 0) h.row]; rfl
theorem zbx_new (w : World) (b : Bool) (a : Option Addr) (n c : Nat) : ZBx (w.alloc (.cells #[.bool b, .slice a n c] 94)) w.heap.size b a n c := ⟨heap_alloc_new w _⟩

end Go.Proofs.YtfjbhiihfibbaaaDoor

/-
  The reference's numbers: ZSub, ZCmp.
-/
namespace Go.Proofs.YtfjbhiihfibbaaaDoor
open Go.RowKit

theorem ZRet.le {w : World} {z : Int} {n m : Nat} {e : Ending} {w' : World} (h : ZRet w z n e w') (hm : n ≤ m) : ZRet w z m e w' := by
  obtain ⟨b', a', n', c', h1, h2, h3, h4⟩ := h
  exact ⟨b', a', n', c', h1, h2, Nat.le_trans h3 hm, h4⟩

end Go.Proofs.YtfjbhiihfibbaaaDoor
