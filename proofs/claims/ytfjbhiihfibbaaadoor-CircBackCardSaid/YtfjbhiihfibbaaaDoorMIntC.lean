/-
  Sign, Of, Small, Neg.
-/
import Derived.Test.YtfjbhiihfibbaaaDoorMIntA
import Derived.Deep.RegionHeld3
import Derived.Test.YtfjbhiihfibbaaaDoorMMulK

namespace Go.Proofs.YtfjbhiihfibbaaaDoor
open Go.RowKit

theorem IsInt.cmp3 {w : World} {sm : Int} {ao : Option Addr} {n c : Nat} {z : Int} (h : IsInt w sm ao n c z) : Go.Proofs.YtfjbhiihfibbaaaDoor.cmp3 sm 0 = Go.Proofs.YtfjbhiihfibbaaaDoor.cmp3 z 0 := by
  obtain ⟨h1, h2, _⟩ := h.sign
  unfold Go.Proofs.YtfjbhiihfibbaaaDoor.cmp3
  by_cases a : sm < 0
  · rw [if_pos a, if_pos (h1.1 a)]
  · rw [if_neg a, if_neg (fun k => a (h1.2 k))]
    by_cases b : sm = 0
    · have c := h2.1 b
      rw [b, c]
    · rw [if_pos (by omega), if_pos (by have : z ≠ 0 := fun k => b (h2.2 k); have : ¬ z < 0 := fun k => a (h1.2 k); omega)]

theorem keep2 {W w' : World} {B : Nat} {x y : Value} (h : Ext W w') (hB : B < W.heap.size) (c0 : W.cell? ⟨B, 0, none⟩ = some x) (c1 : W.cell? ⟨B, 1, none⟩ = some y) : w'.cell? ⟨B, 0, none⟩ = some x ∧ w'.cell? ⟨B, 1, none⟩ = some y :=
  ⟨(h.cell (p := ⟨B, 0, none⟩) hB).trans c0, (h.cell (p := ⟨B, 1, none⟩) hB).trans c1⟩

/-- A number stays what it is while a result's two cells are written. -/
theorem IsInt.setRes {w : World} {g : Nat} {sm : Int} {ao : Option Addr} {n c : Nat} {z x : Int} {p : Option Addr} {q r : Nat} {T : TypeId} (h : IsInt w sm ao n c z) (hg : w.heap[g]? = some (.cells #[.int .i64 x, .slice p q r] T (0, 0))) (u v : Value) :
    IsInt ((w.setCell ⟨g, 0, none⟩ u).setCell ⟨g, 1, none⟩ v) sm ao n c z := by
  rcases h with h | ⟨b, o, l, rfl, hl, hc, hm, hs, hd, hn, hz⟩
  · exact Or.inl h
  · have hO : Only g w ((w.setCell ⟨g, 0, none⟩ u).setCell ⟨g, 1, none⟩ v) := ((Only.refl _ _).setCell _ _).setCell _ _
    refine Or.inr ⟨b, o, l, rfl, hl, hc, hm, hs.only hO ?_, hd, hn, hz⟩
    intro a ha hab
    simp only [Option.some.injEq] at ha
    subst ha
    simp only at hab
    subst hab
    have hl0 : 0 < l.length := by
      apply Nat.pos_of_ne_zero
      intro h0
      have : l = [] := List.eq_nil_of_length_eq_zero h0
      subst this
      rcases hz with ⟨_, _, h⟩ | ⟨_, _, h⟩ <;> simp [val] at h
    rcases hs with ⟨h, _⟩ | ⟨b', o', h, _, hcell⟩
    · cases h
    · simp only [Option.some.injEq, Addr.mk.injEq, and_true] at h
      obtain ⟨rfl, rfl⟩ := h
      have hc0 := hcell 0 hl0
      rw [cell_of_row w b (o + 0) _ T (0, 0) hg] at hc0
      match o, hc0 with
      | 0, hc0 => simp at hc0
      | 1, hc0 => simp at hc0
      | k + 2, hc0 => simp at hc0

theorem Ext.setRes {w W : World} {g : Nat} (h : Ext w W) (hg : w.heap.size ≤ g) (u v : Value) : Ext w ((W.setCell ⟨g, 0, none⟩ u).setCell ⟨g, 1, none⟩ v) := (Below.setCell h (p := ⟨g, 0, none⟩) hg u).setCell (p := ⟨g, 1, none⟩) hg v

theorem keep4 {W w' : World} {B : Nat} {x y x2 y2 : Value} (h : Ext W w') (hB : B + 1 < W.heap.size) (c0 : W.cell? ⟨B, 0, none⟩ = some x) (c1 : W.cell? ⟨B, 1, none⟩ = some y) (d0 : W.cell? ⟨B + 1, 0, none⟩ = some x2) (d1 : W.cell? ⟨B + 1, 1, none⟩ = some y2) :
    w'.cell? ⟨B, 0, none⟩ = some x ∧ w'.cell? ⟨B, 1, none⟩ = some y ∧ w'.cell? ⟨B + 1, 0, none⟩ = some x2 ∧ w'.cell? ⟨B + 1, 1, none⟩ = some y2 :=
  ⟨(h.cell (p := ⟨B, 0, none⟩) (show B < _ by omega)).trans c0, (h.cell (p := ⟨B, 1, none⟩) (show B < _ by omega)).trans c1, (h.cell (p := ⟨B + 1, 0, none⟩) hB).trans d0, (h.cell (p := ⟨B + 1, 1, none⟩) hB).trans d1⟩

end Go.Proofs.YtfjbhiihfibbaaaDoor

/-
  Sums and differences of numbers.
-/
namespace Go.Proofs.YtfjbhiihfibbaaaDoor
open Go.RowKit

theorem Fit.len {k : Nat} {z : Int} {l : List Nat} (hf : Fit k z) (hm : Nrm l) (hv : val l = z.natAbs) : l.length ≤ k := lt_len hm (by rw [hv]; exact hf)

end Go.Proofs.YtfjbhiihfibbaaaDoor
