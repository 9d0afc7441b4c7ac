/-
  A tally in a variable; what is counted, in plain numbers.
-/
import Derived.Test.YtpabafioofhklaaDoorMCp

namespace Go.Proofs.YtpabafioofhklaaDoor
open Go.RowKit

/-- How many of the operations are such. -/
def cntP (p : Gop → Bool) (l : List Gop) : Int := ((l.filter p).length : Int)
theorem cntP_nil (p : Gop → Bool) : cntP p [] = 0 := rfl
theorem cntP_yes {p : Gop → Bool} {l : List Gop} {o : Gop} (h : p o = true) : cntP p (l ++ [o]) = cntP p l + 1 := by simp [cntP, List.filter_append, h]
theorem cntP_no {p : Gop → Bool} {l : List Gop} {o : Gop} (h : p o = false) : cntP p (l ++ [o]) = cntP p l := by simp [cntP, List.filter_append, h]
theorem cntP_bound (p : Gop → Bool) (l : List Gop) : 0 ≤ cntP p l ∧ cntP p l ≤ (l.length : Int) := by
  have := List.length_filter_le p l
  unfold cntP; omega
def isFork (o : Gop) : Bool := o.kind == 3
def isFine (o : Gop) : Bool := o.kind == 4 && !(o.k % 4 == 0)
def isWide (o : Gop) : Bool := decide (0 < o.ctl.length)
def isMeet (o : Gop) : Bool := decide (5 ≤ o.kind)

theorem ckeep {W w' : World} (h : Ext W w') {b o : Nat} {v : Value} (hb : b < W.heap.size) (hc : W.cell? ⟨b, o, none⟩ = some v) : w'.cell? ⟨b, o, none⟩ = some v := (h.cell (p := ⟨b, o, none⟩) hb).trans hc
theorem cthen {w w1 : World} (he : Ext w w1) (o : Obj) : Ext w (w1.alloc o) := he.trans (ext_al _ _)
theorem cput {w W : World} {g o : Nat} (h : Ext w W) (hg : w.heap.size ≤ g) (u : Value) : Ext w (W.setCell ⟨g, o, none⟩ u) := Below.setCell h (p := ⟨g, o, none⟩) hg u
theorem cdrew {w W : World} (h : Ext w W) : Ext w W.drew := Below.drew h

/-- The variable g holds a tally. -/
structure TlB (W : World) (g : Nat) (t0 t1 t2 t3 t4 t5 : Int) : Prop where
  x0 : W.cell? ⟨g, 0, none⟩ = some (.int .i64 t0)
  x1 : W.cell? ⟨g, 1, none⟩ = some (.int .i64 t1)
  x2 : W.cell? ⟨g, 2, none⟩ = some (.int .i64 t2)
  x3 : W.cell? ⟨g, 3, none⟩ = some (.int .i64 t3)
  x4 : W.cell? ⟨g, 4, none⟩ = some (.int .i64 t4)
  x5 : W.cell? ⟨g, 5, none⟩ = some (.int .i64 t5)
  f : ∀ o, W.frozen? ⟨g, o, none⟩ = false
section
variable {W W' : World} {g : Nat} {t0 t1 t2 t3 t4 t5 : Int}
theorem TlB.lt (h : TlB W g t0 t1 t2 t3 t4 t5) : g < W.heap.size := World.block_lt_of_cell? W ⟨g, 0, none⟩ h.x0
theorem TlB.ext (h : TlB W g t0 t1 t2 t3 t4 t5) (k : Ext W W') : TlB W' g t0 t1 t2 t3 t4 t5 :=
  ⟨cell_ext h.x0 k, cell_ext h.x1 k, cell_ext h.x2 k, cell_ext h.x3 k, cell_ext h.x4 k, cell_ext h.x5 k, fun o => by rw [← h.f o]; simp only [World.frozen?, k.block g h.lt]⟩
theorem cell_put_off {o o' : Nat} {u v : Value} (hne : o' ≠ o) (h : W.cell? ⟨g, o, none⟩ = some v) : (W.setCell ⟨g, o', none⟩ u).cell? ⟨g, o, none⟩ = some v := by
  rw [World.cell?_setCell_other _ _ _ _ (fun q => hne (congrArg Addr.off q))]; exact h
theorem TlB.put1 (h : TlB W g t0 t1 t2 t3 t4 t5) (v : Int) : TlB (W.setCell ⟨g, 1, none⟩ (.int .i64 v)) g t0 v t2 t3 t4 t5 :=
  ⟨cell_put_off (by decide) h.x0, World.cell?_setCell_same _ _ _ h.x1, cell_put_off (by decide) h.x2, cell_put_off (by decide) h.x3, cell_put_off (by decide) h.x4, cell_put_off (by decide) h.x5, fun o => by rw [World.frozen?_setCell]; exact h.f o⟩
theorem TlB.put2 (h : TlB W g t0 t1 t2 t3 t4 t5) (v : Int) : TlB (W.setCell ⟨g, 2, none⟩ (.int .i64 v)) g t0 t1 v t3 t4 t5 :=
  ⟨cell_put_off (by decide) h.x0, cell_put_off (by decide) h.x1, World.cell?_setCell_same _ _ _ h.x2, cell_put_off (by decide) h.x3, cell_put_off (by decide) h.x4, cell_put_off (by decide) h.x5, fun o => by rw [World.frozen?_setCell]; exact h.f o⟩
theorem TlB.put3 (h : TlB W g t0 t1 t2 t3 t4 t5) (v : Int) : TlB (W.setCell ⟨g, 3, none⟩ (.int .i64 v)) g t0 t1 t2 v t4 t5 :=
  ⟨cell_put_off (by decide) h.x0, cell_put_off (by decide) h.x1, cell_put_off (by decide) h.x2, World.cell?_setCell_same _ _ _ h.x3, cell_put_off (by decide) h.x4, cell_put_off (by decide) h.x5, fun o => by rw [World.frozen?_setCell]; exact h.f o⟩
theorem TlB.put4 (h : TlB W g t0 t1 t2 t3 t4 t5) (v : Int) : TlB (W.setCell ⟨g, 4, none⟩ (.int .i64 v)) g t0 t1 t2 t3 v t5 :=
  ⟨cell_put_off (by decide) h.x0, cell_put_off (by decide) h.x1, cell_put_off (by decide) h.x2, cell_put_off (by decide) h.x3, World.cell?_setCell_same _ _ _ h.x4, cell_put_off (by decide) h.x5, fun o => by rw [World.frozen?_setCell]; exact h.f o⟩
theorem TlB.put5 (h : TlB W g t0 t1 t2 t3 t4 t5) (v : Int) : TlB (W.setCell ⟨g, 5, none⟩ (.int .i64 v)) g t0 t1 t2 t3 t4 v :=
  ⟨cell_put_off (by decide) h.x0, cell_put_off (by decide) h.x1, cell_put_off (by decide) h.x2, cell_put_off (by decide) h.x3, cell_put_off (by decide) h.x4, World.cell?_setCell_same _ _ _ h.x5, fun o => by rw [World.frozen?_setCell]; exact h.f o⟩
theorem TlB.put0 (h : TlB W g t0 t1 t2 t3 t4 t5) (v : Int) : TlB (W.setCell ⟨g, 0, none⟩ (.int .i64 v)) g v t1 t2 t3 t4 t5 :=
  ⟨World.cell?_setCell_same _ _ _ h.x0, cell_put_off (by decide) h.x1, cell_put_off (by decide) h.x2, cell_put_off (by decide) h.x3, cell_put_off (by decide) h.x4, cell_put_off (by decide) h.x5, fun o => by rw [World.frozen?_setCell]; exact h.f o⟩
theorem cell_put_far {o k : Nat} {g' : Nat} {u v : Value} (hne : g' ≠ g) (h : W.cell? ⟨g, o, none⟩ = some v) : (W.setCell ⟨g', k, none⟩ u).cell? ⟨g, o, none⟩ = some v := by
  rw [World.cell?_setCell_other _ _ _ _ (fun q => hne (congrArg Addr.block q))]; exact h
theorem TlB.far (h : TlB W g t0 t1 t2 t3 t4 t5) {g' k : Nat} (hne : g' ≠ g) (u : Value) : TlB (W.setCell ⟨g', k, none⟩ u) g t0 t1 t2 t3 t4 t5 :=
  ⟨cell_put_far hne h.x0, cell_put_far hne h.x1, cell_put_far hne h.x2, cell_put_far hne h.x3, cell_put_far hne h.x4, cell_put_far hne h.x5, fun o => by rw [World.frozen?_setCell]; exact h.f o⟩
theorem TlB.drew (h : TlB W g t0 t1 t2 t3 t4 t5) : TlB W.drew g t0 t1 t2 t3 t4 t5 := ⟨h.x0, h.x1, h.x2, h.x3, h.x4, h.x5, h.f⟩
/-- The world behind the stores of a tally and of a fault. -/
abbrev putTF (W : World) (g g' : Nat) (a0 a1 a2 a3 a4 a5 f0 f1 : Int) : World :=
  (((((((W.setCell ⟨g, 0, none⟩ (.int .i64 a0)).setCell ⟨g, 1, none⟩ (.int .i64 a1)).setCell ⟨g, 2, none⟩ (.int .i64 a2)).setCell ⟨g, 3, none⟩ (.int .i64 a3)).setCell ⟨g, 4, none⟩ (.int .i64 a4)).setCell ⟨g, 5, none⟩ (.int .i64 a5)).setCell ⟨g', 0, none⟩ (.int .i64 f0)).setCell ⟨g', 1, none⟩ (.int .i64 f1)
theorem TlB.putTF (h : TlB W g t0 t1 t2 t3 t4 t5) {g' : Nat} (hne : g' ≠ g) (a0 a1 a2 a3 a4 a5 f0 f1 : Int) {y0 y1 : Value} (h0 : W.cell? ⟨g', 0, none⟩ = some y0) (h1 : W.cell? ⟨g', 1, none⟩ = some y1) :
    TlB (putTF W g g' a0 a1 a2 a3 a4 a5 f0 f1) g a0 a1 a2 a3 a4 a5 ∧ (putTF W g g' a0 a1 a2 a3 a4 a5 f0 f1).cell? ⟨g', 0, none⟩ = some (.int .i64 f0) ∧ (putTF W g g' a0 a1 a2 a3 a4 a5 f0 f1).cell? ⟨g', 1, none⟩ = some (.int .i64 f1) := by
  have k0 : ∀ (o : Nat) (v : Value), W.cell? ⟨g', o, none⟩ = some v → ((((((W.setCell ⟨g, 0, none⟩ (.int .i64 a0)).setCell ⟨g, 1, none⟩ (.int .i64 a1)).setCell ⟨g, 2, none⟩ (.int .i64 a2)).setCell ⟨g, 3, none⟩ (.int .i64 a3)).setCell ⟨g, 4, none⟩ (.int .i64 a4)).setCell ⟨g, 5, none⟩ (.int .i64 a5)).cell? ⟨g', o, none⟩ = some v := fun o v hv =>
    cell_put_far hne.symm (cell_put_far hne.symm (cell_put_far hne.symm (cell_put_far hne.symm (cell_put_far hne.symm (cell_put_far hne.symm hv)))))
  refine ⟨((((((((h.put0 a0).put1 a1).put2 a2).put3 a3).put4 a4).put5 a5).far hne _).far hne _), ?_, ?_⟩
  · exact cell_put_off (by decide) (World.cell?_setCell_same _ _ _ (k0 0 y0 h0))
  · exact World.cell?_setCell_same _ _ _ (cell_put_off (by decide) (k0 1 y1 h1))
theorem ext_putTF {w0 : World} (h : Ext w0 W) {g' : Nat} (hg : w0.heap.size ≤ g) (hg' : w0.heap.size ≤ g') (a0 a1 a2 a3 a4 a5 f0 f1 : Int) : Ext w0 (putTF W g g' a0 a1 a2 a3 a4 a5 f0 f1) :=
  Below.setCell (Below.setCell (Below.setCell (Below.setCell (Below.setCell (Below.setCell (Below.setCell (Below.setCell h hg _) hg _) hg _) hg _) hg _) hg _) hg' _) hg' _
theorem tlb_new (w : World) (t0 t1 t2 t3 t4 t5 : Int) : TlB (w.alloc (.cells #[.int .i64 t0, .int .i64 t1, .int .i64 t2, .int .i64 t3, .int .i64 t4, .int .i64 t5] 26)) w.heap.size t0 t1 t2 t3 t4 t5 := by
  have hr := heap_alloc_new w (.cells #[.int .i64 t0, .int .i64 t1, .int .i64 t2, .int .i64 t3, .int .i64 t4, .int .i64 t5] 26)
  refine ⟨?_, ?_, ?_, ?_, ?_, ?_, fun o => frozen_of_row _ _ o _ _ hr⟩ <;> (rw [cell_of_row _ _ _ _ _ (0, 0) hr]; rfl)
end

end Go.Proofs.YtpabafioofhklaaDoor
