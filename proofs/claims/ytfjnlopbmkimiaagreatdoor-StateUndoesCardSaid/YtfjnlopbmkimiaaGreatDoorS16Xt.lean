/-
  The program: a run that is under way, in memory. The program: are an operation's conditions met. The program: asks: operations are done up to the next one that asks for an outcome. The program: take: an outcome is taken. The program: check: the first fault of a circuit and of the basis state that it is to begin in. The program: the wave of a basis state.
-/
import Derived.Test.YtfjnlopbmkimiaaGreatDoorProg
import Derived.Test.YtfjnlopbmkimiaaGreatDoorRows
import Derived.BigQuiet
import Derived.Deep.AppendLies
import Derived.Deep.Cut
import Derived.Deep.CutRange
import Derived.Deep.LoopGhost
import Derived.Deep.MidRow
import Derived.Deep.QuietTactic
import Derived.Deep.RegionHeld3
import Derived.Ground.Names2Prog
import Derived.Laws.Bits64b
import Derived.Laws.CopyOwn
import Derived.Laws.IdiomCopy
import Derived.Laws.ResultCell
import Derived.Laws.Rows
import Derived.Lib.AppendIntMem
import Derived.Lib.AppendStr
import Derived.Lib.BitFns
import Derived.Lib.Hide
import Derived.Lib.ItoaMem
import Derived.Lib.ItoaNum
import Derived.Lib.Strings
import Derived.Lib.TrailingZeros
import Derived.LoopIn
import Derived.LoopNIn
import Derived.OrdersHeld
import Derived.OrdersIn
import Derived.OwnWalk
import Derived.OwnWalkIn
import Derived.ProofKit
import Derived.RangeFuncBound
import Derived.RangeFuncCalls
import Derived.RangeFuncFrom
import Derived.RangeFuncLeaves
import Derived.RegionTactic
import Derived.Shelf.Abstract
import Derived.Shelf.Bits.Mul64
import Derived.Shelf.LaysM
import Derived.Shelf.Slices.SearchI
import Derived.Shelf.Small.Bits
import Derived.Shelf.Small.Wraps
import Derived.Shelf.Spec.BitsCarry
import Derived.Shelf.Spec.TrailingZeros
import Derived.Shelf.Strconv.Itoa0
import Derived.Shelf.Strconv.Itoa1
import Derived.Shelf.Strconv.Itoa2
import Derived.Shelf.Strconv.Itoa3
import Derived.Shelf.Strings.Builder1
import Derived.Shelf.Strings.BuilderF
import Derived.Shelf.Strings.BuilderK
import Derived.TacticsInMore
import Derived.WalkKit
import Derived.WalkLawsBesides
import Derived.WalkSpells
import Derived.Test.YtfjnlopbmkimiaaGreatDoorS00Mem
import Derived.Test.YtfjnlopbmkimiaaGreatDoorShelf
import Derived.Test.YtfjnlopbmkimiaaGreatDoorS02ShiftI
import Derived.Test.YtfjnlopbmkimiaaGreatDoorS03GuessD
import Derived.Test.YtfjnlopbmkimiaaGreatDoorS04IntB
import Derived.Test.YtfjnlopbmkimiaaGreatDoorS05IntD
import Derived.Test.YtfjnlopbmkimiaaGreatDoorS06GcB
import Derived.Test.YtfjnlopbmkimiaaGreatDoorS07Rg
import Derived.Test.YtfjnlopbmkimiaaGreatDoorS08ZC
import Derived.Test.YtfjnlopbmkimiaaGreatDoorS09Bw
import Derived.Test.YtfjnlopbmkimiaaGreatDoorS10TxT
import Derived.Test.YtfjnlopbmkimiaaGreatDoorS11Xo
import Derived.Test.YtfjnlopbmkimiaaGreatDoorS12Xm
import Derived.Test.YtfjnlopbmkimiaaGreatDoorS13Yg
import Derived.Test.YtfjnlopbmkimiaaGreatDoorS14Rz
import Derived.Test.YtfjnlopbmkimiaaGreatDoorS15Yn
namespace Go.Proofs.YtfjnlopbmkimiaaGreatDoor
open Go.RowKit

/-- A block of another kind than waves and their numbers. -/
def Oth (w : World) (g : Nat) : Prop := ∃ (cs : Array Value) (t : TypeId) (fr : Nat × Nat), w.heap[g]? = some (.cells cs t fr) ∧ t ≠ 105 ∧ t ≠ 78
theorem WvAt.far {w w' : World} {b n g : Nat} {s : Nat → Nm} {P E : Nat} (h : WvAt w b n s P E) (c : Chg g w w') (hg : Oth w g) : WvAt w' b n s P E := by
  obtain ⟨cs, t, fr, e1, e2, e3⟩ := hg
  obtain ⟨c0, h1, h2, h3⟩ := h.row
  have hb : b ≠ g := by
    rintro rfl
    rw [h1] at e1
    injection e1 with e1
    injection e1 with _ e1 _
    exact e2 e1.symm
  refine ⟨c0, (c.block b hb (Array.getElem?_eq_some_iff.1 h1).1).trans h1, h2, fun x hx => ?_⟩
  obtain ⟨p, g1, g2⟩ := h3 x hx
  refine ⟨p, g1, ?_⟩
  rcases g2 with g2 | ⟨g', c', f1, f2, f3, f4⟩
  · exact Or.inl g2
  · have hne : g' ≠ g := by
      rintro rfl
      rw [f2] at e1
      injection e1 with e1
      injection e1 with _ e1 _
      exact e3 e1.symm
    exact Or.inr ⟨g', c', f1, (c.block g' hne (Array.getElem?_eq_some_iff.1 f2).1).trans f2, f3.keep64 c.keep, f4⟩
theorem WvA.far {w w' : World} {b n g : Nat} {s : Nat → Nm} {N : Nat} (h : WvA w b n s N) (c : Chg g w w') (hg : Oth w g) : WvA w' b n s N := ⟨h.at'.far c hg, h.amp⟩
theorem OwnI.keep {w w' : World} {e : TypeId} {v : Value} {l : List Int} (h : OwnI w e v l) (hk : ∀ g, v.ownBlock = some g → g < w.heap.size → w'.heap[g]? = w.heap[g]?) : OwnI w' e v l := by
  rcases h with h | ⟨g, cap, cur, hv, hh, r⟩
  · exact Or.inl h
  · exact Or.inr ⟨g, cap, cur, hv, (hk g (by rw [hv]; rfl) (Array.getElem?_eq_some_iff.1 hh).1).trans hh, r⟩
/-- The cells of bits. -/
def bC (bits : List Int) : Array Value := (bits.map fun x => Value.int .i64 x).toArray

/-- A run: its block R, its wave in block bw, its bits in block bb, its tape at or above B. -/
structure RunA (w0 w : World) (B R : Nat) (oa : Option Addr) (no co i bw n cw bb : Nat) (bits : List Int) (tv : Value) (u : Nat) (s : Nat → Nm) (N : Nat) : Prop where
  ext : Ext w0 w
  row : w.heap[R]? = some (.cells #[.slice oa no co, .int .i64 (i : Int), .slice (some ⟨bw, 0, none⟩) n cw, .slice (some ⟨bb, 0, none⟩) bits.length bits.length, tv] 68 (0, 0))
  bit : w.heap[bb]? = some (.cells (bC bits) 3 (0, 0))
  own : ∃ tl : List Int, tl.length = u ∧ OwnI w 3 tv tl ∧ ∀ g, tv.ownBlock = some g → B ≤ g
  wav : WvA w bw n s N
  hR : w0.heap.size ≤ R ∧ R < B
  hb : w0.heap.size ≤ bb ∧ bb < B
  hw : w0.heap.size ≤ bw ∧ bw < B
  hB : B ≤ w.heap.size
section
variable {w0 w w' : World} {B R : Nat} {oa : Option Addr} {no co i bw n cw bb : Nat} {bits : List Int} {tv : Value} {u : Nat} {s s' : Nat → Nm} {N N' : Nat}
theorem RunA.ext' (h : RunA w0 w B R oa no co i bw n cw bb bits tv u s N) (k : Ext w w') : RunA w0 w' B R oa no co i bw n cw bb bits tv u s N := by
  obtain ⟨tl, t1, t2, t3⟩ := h.own
  exact ⟨h.ext.trans k, (k.block _ (Array.getElem?_eq_some_iff.1 h.row).1).trans h.row, (k.block _ (Array.getElem?_eq_some_iff.1 h.bit).1).trans h.bit, ⟨tl, t1, t2.keep (fun g _ hg => k.block g hg), t3⟩, h.wav.ext k, h.hR, h.hb, h.hw, Nat.le_trans h.hB k.size⟩
theorem RunA.oR (h : RunA w0 w B R oa no co i bw n cw bb bits tv u s N) : Oth w R := ⟨_, _, _, h.row, by decide, by decide⟩
theorem RunA.oB (h : RunA w0 w B R oa no co i bw n cw bb bits tv u s N) : Oth w bb := ⟨_, _, _, h.bit, by decide, by decide⟩
theorem RunA.neR (h : RunA w0 w B R oa no co i bw n cw bb bits tv u s N) : R ≠ bw := by
  rintro rfl
  obtain ⟨cs, h1, _⟩ := h.wav.at'.row
  have h2 := h.row
  rw [h1] at h2
  injection h2 with h2
  injection h2 with _ h2 _
  exact absurd h2 (by decide)
theorem RunA.neB (h : RunA w0 w B R oa no co i bw n cw bb bits tv u s N) : bb ≠ bw := by
  rintro rfl
  obtain ⟨cs, h1, _⟩ := h.wav.at'.row
  have h2 := h.bit
  rw [h1] at h2
  injection h2 with h2
  injection h2 with _ h2 _
  exact absurd h2 (by decide)
theorem RunA.neRB (h : RunA w0 w B R oa no co i bw n cw bb bits tv u s N) : R ≠ bb := by
  rintro rfl
  have h1 := h.row; have h2 := h.bit
  rw [h1] at h2
  injection h2 with h2
  injection h2 with _ h2 _
  exact absurd h2 (by decide)
/-- The wave has turned. -/
theorem RunA.wave (h : RunA w0 w B R oa no co i bw n cw bb bits tv u s N) (c : Chg bw w w') (hw : WvA w' bw n s' N') : RunA w0 w' B R oa no co i bw n cw bb bits tv u s' N' := by
  obtain ⟨tl, t1, t2, t3⟩ := h.own
  have hh := h.hw
  exact ⟨c.ext h.ext hh.1, (c.block _ h.neR (Array.getElem?_eq_some_iff.1 h.row).1).trans h.row, (c.block _ h.neB (Array.getElem?_eq_some_iff.1 h.bit).1).trans h.bit,
    ⟨tl, t1, t2.keep (fun g hg1 hg => c.block g (by have := t3 g hg1; omega) hg), t3⟩, hw, h.hR, h.hb, h.hw, Nat.le_trans h.hB c.size⟩
/-- A store into the run's own block. -/
theorem RunA.chgR (_h : RunA w0 w B R oa no co i bw n cw bb bits tv u s N) {o : Nat} {v0 : Value} (v : Value) (h0 : w.cell? ⟨R, o, none⟩ = some v0) (hv : ∀ x, v0 ≠ .int .u64 x) : Chg R w (w.setCell ⟨R, o, none⟩ v) :=
  Chg.of_only ((Only.refl R w).setCell o _) ((Keep64.refl w).set ⟨_, h0, hv⟩ v)
theorem RunA.keepR (h : RunA w0 w B R oa no co i bw n cw bb bits tv u s N) (c : Chg R w w') {i' : Nat} {tv' : Value} {u' : Nat} (hr : w'.heap[R]? = some (.cells #[.slice oa no co, .int .i64 (i' : Int), .slice (some ⟨bw, 0, none⟩) n cw, .slice (some ⟨bb, 0, none⟩) bits.length bits.length, tv'] 68 (0, 0)))
    (ho : ∃ tl : List Int, tl.length = u' ∧ OwnI w 3 tv' tl ∧ ∀ g, tv'.ownBlock = some g → B ≤ g) : RunA w0 w' B R oa no co i' bw n cw bb bits tv' u' s N := by
  obtain ⟨tl, t1, t2, t3⟩ := ho
  have hh := h.hR
  exact ⟨c.ext h.ext hh.1, hr, (c.block _ (fun e => h.neRB e.symm) (Array.getElem?_eq_some_iff.1 h.bit).1).trans h.bit, ⟨tl, t1, t2.keep (fun g hg1 hg => c.block g (by have := t3 g hg1; omega) hg), t3⟩, h.wav.far c h.oR, h.hR, h.hb, h.hw, Nat.le_trans h.hB c.size⟩
theorem RunA.c0 (h : RunA w0 w B R oa no co i bw n cw bb bits tv u s N) : w.cell? ⟨R, 0, none⟩ = some (.slice oa no co) := by rw [cell_of_row w R 0 _ _ (0, 0) h.row]; rfl
theorem RunA.c1 (h : RunA w0 w B R oa no co i bw n cw bb bits tv u s N) : w.cell? ⟨R, 1, none⟩ = some (.int .i64 (i : Int)) := by rw [cell_of_row w R 1 _ _ (0, 0) h.row]; rfl
theorem RunA.c2 (h : RunA w0 w B R oa no co i bw n cw bb bits tv u s N) : w.cell? ⟨R, 2, none⟩ = some (.slice (some ⟨bw, 0, none⟩) n cw) := by rw [cell_of_row w R 2 _ _ (0, 0) h.row]; rfl
theorem RunA.c3 (h : RunA w0 w B R oa no co i bw n cw bb bits tv u s N) : w.cell? ⟨R, 3, none⟩ = some (.slice (some ⟨bb, 0, none⟩) bits.length bits.length) := by rw [cell_of_row w R 3 _ _ (0, 0) h.row]; rfl
theorem RunA.c4 (h : RunA w0 w B R oa no co i bw n cw bb bits tv u s N) : w.cell? ⟨R, 4, none⟩ = some tv := by rw [cell_of_row w R 4 _ _ (0, 0) h.row]; rfl
theorem RunA.f (h : RunA w0 w B R oa no co i bw n cw bb bits tv u s N) (o : Nat) : w.frozen? ⟨R, o, none⟩ = false := frozen_of_row w R o _ _ h.row
/-- The number of the operation is another. -/
theorem RunA.at' (h : RunA w0 w B R oa no co i bw n cw bb bits tv u s N) (i' : Nat) : RunA w0 (w.setCell ⟨R, 1, none⟩ (.int .i64 (i' : Int))) B R oa no co i' bw n cw bb bits tv u s N :=
  h.keepR (h.chgR _ h.c1 (fun _ e => by cases e)) (heap_setCell_same w R 1 _ _ _ h.row) h.own
theorem RunA.bits' (h : RunA w0 w B R oa no co i bw n cw bb bits tv u s N) : IntsAt w (some ⟨bb, 0, none⟩) bits.length bits := by
  refine ⟨rfl, ?_⟩
  by_cases e : bits.length = 0
  · exact Or.inl e
  · refine Or.inr ⟨bb, 0, rfl, (Array.getElem?_eq_some_iff.1 h.bit).1, fun t ht => ?_⟩
    rw [cell_of_row w bb (0 + t) _ _ (0, 0) h.bit, Nat.zero_add]
    unfold bC
    rw [List.getElem?_toArray, List.getElem?_map, List.getElem?_eq_getElem ht, List.getD_eq_getElem?_getD, List.getElem?_eq_getElem ht]
    rfl
/-- A bit is written. -/
theorem RunA.setBit (h : RunA w0 w B R oa no co i bw n cw bb bits tv u s N) (j : Nat) (v : Int) (hj : j < bits.length) : RunA w0 (w.setCell ⟨bb, j, none⟩ (.int .i64 v)) B R oa no co i bw n cw bb (bits.set j v) tv u s N := by
  obtain ⟨tl, t1, t2, t3⟩ := h.own
  have hc : w.cell? ⟨bb, j, none⟩ = some (.int .i64 (bits.getD j 0)) := by
    rw [cell_of_row w bb j _ _ (0, 0) h.bit]
    unfold bC
    rw [List.getElem?_toArray, List.getElem?_map, List.getElem?_eq_getElem hj, List.getD_eq_getElem?_getD, List.getElem?_eq_getElem hj]
    rfl
  have c : Chg bb w (w.setCell ⟨bb, j, none⟩ (.int .i64 v)) := Chg.of_only ((Only.refl bb w).setCell j _) ((Keep64.refl w).set (NotW.i64 hc) _)
  have hh := h.hb
  refine ⟨c.ext h.ext hh.1, ?_, ?_, ⟨tl, t1, t2.keep (fun g hg1 hg => c.block g (by have := t3 g hg1; omega) hg), t3⟩, h.wav.far c h.oB, h.hR, h.hb, h.hw, Nat.le_trans h.hB c.size⟩
  · rw [List.length_set]
    exact (c.block _ h.neRB (Array.getElem?_eq_some_iff.1 h.row).1).trans h.row
  · rw [heap_setCell_same w bb j _ _ (.int .i64 v) h.bit]
    unfold bC
    congr 2
    rw [List.map_set, List.setIfInBounds_toArray]
/-- An outcome is put onto the tape. -/
theorem RunA.apd (h : RunA w0 w B R oa no co i bw n cw bb bits tv u s N) {tv' : Value} {tl : List Int} {x : Int} (_h1 : tl.length = u) (h2 : OwnI w 3 tv tl) (h3 : ∀ g, tv.ownBlock = some g → B ≤ g) (_h4 : OwnI w' 3 tv' (tl ++ [x])) (h5 : Apd w w' tv tv') :
    w'.heap[R]? = some (.cells #[.slice oa no co, .int .i64 (i : Int), .slice (some ⟨bw, 0, none⟩) n cw, .slice (some ⟨bb, 0, none⟩) bits.length bits.length, tv] 68 (0, 0)) ∧
    RunA w0 (w'.setCell ⟨R, 4, none⟩ tv') B R oa no co i bw n cw bb bits tv' (u + 1) s N := by
  have hB := h.hB; have hR := h.hR; have hb := h.hb; have hw := h.hw
  have hE : Ext w0 w' := ⟨h5.grown.os.trans h.ext.os, h5.grown.tape.trans h.ext.tape, h5.grown.output.trans h.ext.output, Nat.le_trans h.ext.size h5.grown.size, fun k hk => (h5.grown.block k (Nat.lt_of_lt_of_le hk h.ext.size) (fun e => by have := h3 k e.symm; omega)).trans (h.ext.block k hk)⟩
  have row' : w'.heap[R]? = some (.cells #[.slice oa no co, .int .i64 (i : Int), .slice (some ⟨bw, 0, none⟩) n cw, .slice (some ⟨bb, 0, none⟩) bits.length bits.length, tv] 68 (0, 0)) := (h5.grown.block R (by omega) (fun e => by have := h3 R e.symm; omega)).trans h.row
  have bit' := (h5.grown.block bb (by omega) (fun e => by have := h3 bb e.symm; omega)).trans h.bit
  have hW : WvA w' bw n s N := by
    rcases h2 with ⟨rfl, rfl⟩ | ⟨g, cap, cur, rfl, hg, _, _, _, _, hall⟩
    · exact h.wav.ext h5.ext
    · refine h.wav.far (g := g) ⟨h5.grown.os, h5.grown.tape, h5.grown.output, h5.grown.size, fun k hk hl => h5.grown.block k hl (fun e => hk (by simpa [Value.ownBlock] using e)), h5.grown.size, fun b' o' x' hx => ?_⟩ ⟨_, _, _, hg, by decide, by decide⟩
      have hne : b' ≠ g := by
        rintro rfl
        rw [cell_of_row w b' o' cur _ (0, 0) hg] at hx
        obtain ⟨y, hy⟩ := hall _ (List.mem_of_getElem? (by rw [Array.getElem?_toList]; exact hx))
        cases hy
      exact (World.cell?_of_block (a := ⟨b', o', none⟩) (h5.grown.block b' (World.block_lt_of_cell? w ⟨b', o', none⟩ hx) (fun e => hne (by simpa [Value.ownBlock] using e)))).trans hx
  have own' : ∃ tl : List Int, tl.length = u + 1 ∧ OwnI w' 3 tv' tl ∧ ∀ g, tv'.ownBlock = some g → B ≤ g := ⟨tl ++ [x], by rw [List.length_append, _h1]; rfl, _h4, fun g hg => by
    rcases h5.lies with e | ⟨g', e, hg'⟩
    · exact h3 g (by rw [← e]; exact hg)
    · rw [e] at hg; injection hg with hg; omega⟩
  have c4 : w'.cell? ⟨R, 4, none⟩ = some tv := by rw [cell_of_row w' R 4 _ _ (0, 0) row']; rfl
  have ntv : ∀ x, tv ≠ .int .u64 x := fun x e => by
    rcases h2 with ⟨h, _⟩ | ⟨g, cap, cur, h, _⟩
    · rw [e] at h; cases h
    · rw [e] at h; cases h
  have c : Chg R w' (w'.setCell ⟨R, 4, none⟩ tv') := Chg.of_only ((Only.refl R w').setCell 4 _) ((Keep64.refl w').set ⟨_, c4, ntv⟩ tv')
  obtain ⟨tl2, t1, t2, t3⟩ := own'
  have oR : Oth w' R := ⟨_, _, _, row', by decide, by decide⟩
  exact ⟨row', c.ext hE hR.1, heap_setCell_same w' R 4 _ _ _ row', (c.block _ (fun e => h.neRB e.symm) (Array.getElem?_eq_some_iff.1 bit').1).trans bit', ⟨tl2, t1, t2.keep (fun g hg1 hg => c.block g (by have := t3 g hg1; omega) hg), t3⟩, hW.far c oR, h.hR, h.hb, h.hw, Nat.le_trans hB (Nat.le_trans h5.grown.size c.size)⟩
/-- From an elder world on. -/
theorem RunA.base {w00 : World} (h : RunA w0 w B R oa no co i bw n cw bb bits tv u s N) (k : Ext w00 w0) : RunA w00 w B R oa no co i bw n cw bb bits tv u s N := by
  have h1 := h.hR; have h2 := h.hb; have h3 := h.hw; have h4 := k.size
  exact ⟨k.trans h.ext, h.row, h.bit, h.own, h.wav, ⟨by omega, h1.2⟩, ⟨by omega, h2.2⟩, ⟨by omega, h3.2⟩, h.hB⟩
/-- A store into another block. -/
theorem RunA.put {g : Nat} (h : RunA w0 w B R oa no co i bw n cw bb bits tv u s N) (c : Chg g w w') (ho : Oth w g) (h1 : w0.heap.size ≤ g) (h2 : R ≠ g) (h3 : bb ≠ g) (h4 : g < B) : RunA w0 w' B R oa no co i bw n cw bb bits tv u s N := by
  obtain ⟨tl, t1, t2, t3⟩ := h.own
  exact ⟨c.ext h.ext h1, (c.block _ h2 (Array.getElem?_eq_some_iff.1 h.row).1).trans h.row, (c.block _ h3 (Array.getElem?_eq_some_iff.1 h.bit).1).trans h.bit, ⟨tl, t1, t2.keep (fun g' hg1 hg => c.block g' (by have := t3 g' hg1; omega) hg), t3⟩, h.wav.far c ho, h.hR, h.hb, h.hw, Nat.le_trans h.hB c.size⟩
end
end Go.Proofs.YtfjnlopbmkimiaaGreatDoor
namespace Go.Proofs.YtfjnlopbmkimiaaGreatDoor
open Go.RowKit

set_option maxRecDepth 100000 in
set_option maxHeartbeats 4000000 in
theorem meets_run (R : Nat) (a2 ab : Option Addr) (n2 c2 nb cb : Nat) (cnd bits : List Int) (w : World) (hI : IntsAt w a2 n2 cnd) (hB : IntsAt w ab nb bits) (hn2 : n2 ≤ 1000) (hnb : nb ≤ 12)
    (hf : w.cell? ⟨R, 3, none⟩ = some (.slice ab nb cb)) (hok : ∀ t ∈ cnd, t ≠ 0 ∧ -(nb : Int) ≤ t ∧ t ≤ (nb : Int)) :
    Calls Tryz.prog 82 #[.pointer (some ⟨R, 0, none⟩), .slice a2 n2 c2] w fun e w' => e = .returned (.bool (cnM bits cnd)) ∧ w' = w := by
  obtain ⟨B, hBB⟩ : ∃ B, cnM bits cnd = B := ⟨_, rfl⟩
  rw [hBB]
  have HBB := Lib.hid hBB; have HI := Lib.hid hI; have HB := Lib.hid hB; have Hnb := Lib.hid hnb; have Hok := Lib.hid hok; have Hn2 := Lib.hid hn2
  clear hBB hI hB hnb hok hn2
  go_enter Tryz.func82, Tryz.ntmps82
  go_wp2_with fail
  go_loopg [6, 7, 8, 11] n2 (fun kk s6 s7 s8 s11 wr => ∃ i : Nat, s11 = .int .i64 (i : Int) ∧ i ≤ n2 ∧ n2 - i = kk ∧ (∀ t, t < i → tm bits (cnd.getD t 0) = true) ∧ wr = w)
  case atStart => exact ⟨0, rfl, by omega, by omega, fun t ht => by omega, rfl⟩
  case round =>
    obtain ⟨i, rfl, hi, hk, hal, rfl⟩ := hrel
    have Hal := Lib.hid hal; have Hk := Lib.hid hk
    clear hal hk
    by_cases hin : i = n2
    · have HBt := Lib.hid (show true = B by
        rw [← HBB.out]
        exact (cnM_true (fun t ht => Hal.out t (by have := HI.out.1; omega))).symm)
      have q1 : ¬ (i : Int) < (n2 : Int) := by omega
      clear hin hi
      go_wp2_with fail
      go_ret
      exact ⟨congrArg (fun b => Ending.returned (Value.bool b)) HBt.out, rfl⟩
    have hlt : i < n2 := by omega
    have q1 : (i : Int) < (n2 : Int) := by omega
    have q0 : (0 : Int) ≤ (i : Int) := by omega
    have wk : IntKind.i64.wrap ((i : Int) + 1) = ((i + 1 : Nat) : Int) := by rw [IntKind.wrap_i64]; have := Hn2.out; omega
    obtain ⟨b, o, rfl, hb, hcc⟩ := HI.out.2.resolve_left (by omega)
    have y0 := hcc i hlt
    obtain ⟨t, ht⟩ : ∃ t, cnd.getD i 0 = t := ⟨_, rfl⟩
    rw [ht] at y0
    have hil : i < cnd.length := by have := HI.out.1; omega
    have ht3 : t ≠ 0 ∧ -(nb : Int) ≤ t ∧ t ≤ (nb : Int) := by
      refine Hok.out t ?_
      rw [← ht, List.getD_eq_getElem?_getD, List.getElem?_eq_getElem hil]
      exact List.getElem_mem hil
    obtain ⟨bb, ob, rfl, hbb, hcb⟩ := HB.out.2.resolve_left (by omega)
    have hnb12 := Hnb.out
    have Ht := Lib.hid ht; have Hlt := Lib.hid hlt; have Hil := Lib.hid hil
    clear ht hlt hil hcc hb hbb hin hi
    by_cases htp : 0 < t
    · obtain ⟨u, rfl⟩ : ∃ u : Nat, t = ((u + 1 : Nat) : Int) := ⟨(t - 1).toNat, by omega⟩
      have hub : u < nb := by omega
      have z0 := hcb u hub
      obtain ⟨v, hv⟩ : ∃ v, bits.getD u 0 = v := ⟨_, rfl⟩
      rw [hv] at z0
      have htm : tm bits ((u + 1 : Nat) : Int) = (v == 1) := by
        unfold tm
        rw [if_pos htp, show (((u + 1 : Nat) : Int) - 1).toNat = u by omega, hv]
      obtain ⟨T, hT⟩ : ∃ T : Int, ((u + 1 : Nat) : Int) = T := ⟨_, rfl⟩
      have wt : IntKind.i64.wrap (T - 1) = (u : Int) := by rw [IntKind.wrap_i64]; omega
      rw [hT] at y0 htp htm Ht ht3
      have u0 : (0 : Int) ≤ (u : Int) := by omega
      have u1 : (u : Int) < (nb : Int) := by omega
      have tn : ¬ T < 0 := by omega
      clear hcb hT ht3 hub hv hnb12 htp
      by_cases hv1 : v = 1
      · subst hv1
        have Htm := Lib.hid (show tm bits T = true by rw [htm]; rfl)
        clear htm
        go_wp2_with fail
        go_roundg (n2 - (i + 1))
        case measure => have := Hk.out; have := Hlt.out; omega
        case rel => exact ⟨i + 1, rfl, Hlt.out, rfl, fun t ht => by
          by_cases e : t = i
          · rw [e, Ht.out]; exact Htm.out
          · exact Hal.out t (by omega), rfl⟩
      · have kn : (v == 1) = false := by simpa using hv1
        have HBf := Lib.hid (show false = B by rw [← HBB.out]; exact (cnM_false Hil.out Ht.out (by rw [htm]; exact kn)).symm)
        clear htm
        go_wp2_with fail
        go_ret
        exact ⟨congrArg (fun b => Ending.returned (Value.bool b)) HBf.out, rfl⟩
    · obtain ⟨u, rfl⟩ : ∃ u : Nat, t = -((u + 1 : Nat) : Int) := ⟨(-t - 1).toNat, by omega⟩
      have hub : u < nb := by omega
      have z0 := hcb u hub
      obtain ⟨v, hv⟩ : ∃ v, bits.getD u 0 = v := ⟨_, rfl⟩
      rw [hv] at z0
      have htm : tm bits (-((u + 1 : Nat) : Int)) = (v == 0) := by
        unfold tm
        rw [if_neg htp, show (-(-((u + 1 : Nat) : Int)) - 1).toNat = u by omega, hv]
      obtain ⟨T, hT⟩ : ∃ T : Int, -((u + 1 : Nat) : Int) = T := ⟨_, rfl⟩
      obtain ⟨M, hM⟩ : ∃ M : Int, ((u + 1 : Nat) : Int) = M := ⟨_, rfl⟩
      have wn : IntKind.i64.wrap (-T) = M := by rw [IntKind.wrap_i64]; omega
      have wt : IntKind.i64.wrap (M - 1) = (u : Int) := by rw [IntKind.wrap_i64]; omega
      rw [hT] at y0 htp htm Ht ht3
      have u0 : (0 : Int) ≤ (u : Int) := by omega
      have u1 : (u : Int) < (nb : Int) := by omega
      have tn : T < 0 := by omega
      clear hcb hT hM ht3 hub hv hnb12 htp
      by_cases hv1 : v = 0
      · subst hv1
        have Htm := Lib.hid (show tm bits T = true by rw [htm]; rfl)
        clear htm
        go_wp2_with fail
        go_roundg (n2 - (i + 1))
        case measure => have := Hk.out; have := Hlt.out; omega
        case rel => exact ⟨i + 1, rfl, Hlt.out, rfl, fun t ht => by
          by_cases e : t = i
          · rw [e, Ht.out]; exact Htm.out
          · exact Hal.out t (by omega), rfl⟩
      · have kn : (v == 0) = false := by simpa using hv1
        have HBf := Lib.hid (show false = B by rw [← HBB.out]; exact (cnM_false Hil.out Ht.out (by rw [htm]; exact kn)).symm)
        clear htm
        go_wp2_with fail
        go_ret
        exact ⟨congrArg (fun b => Ending.returned (Value.bool b)) HBf.out, rfl⟩
end Go.Proofs.YtfjnlopbmkimiaaGreatDoor
namespace Go.Proofs.YtfjnlopbmkimiaaGreatDoor
open Go.RowKit

/-- The next operation that asks for an outcome: is there one; its number; the state ahead of it. -/
noncomputable def askM (bits : List Int) : List Gop → Nat → (Nat → Nm) → Bool × Nat × (Nat → Nm)
  | [], i, s => (false, i, s)
  | o :: r, i, s => if cnM bits o.cnd = false then askM bits r (i + 1) s else if o.kind < 5 then askM bits r (i + 1) (gt o s) else (true, i, s)
theorem askM_end {bits : List Int} {ops : List Gop} {i : Nat} {s : Nat → Nm} (h : ops.length ≤ i) : askM bits (ops.drop i) i s = (false, i, s) := by rw [List.drop_eq_nil_of_le h]; rfl
theorem askM_step {bits : List Int} {ops : List Gop} {i : Nat} {s : Nat → Nm} {o : Gop} (h : ops[i]? = some o) : askM bits (ops.drop i) i s = if cnM bits o.cnd = false then askM bits (ops.drop (i + 1)) (i + 1) s else if o.kind < 5 then askM bits (ops.drop (i + 1)) (i + 1) (gt o s) else (true, i, s) := by
  obtain ⟨hi, e⟩ := List.getElem?_eq_some_iff.1 h
  rw [List.drop_eq_getElem_cons hi, askM, e]
/-- What it is good for. -/
theorem plM_ask (want bits : List Int) (u : Nat) (ops : List Gop) : ∀ (d i : Nat) (s : Nat → Nm), ops.length - i = d → ∀ (B : Bool) (i' : Nat) (s' : Nat → Nm), askM bits (ops.drop i) i s = (B, i', s') →
    i ≤ i' ∧ (B = false → plM want (ops.drop i) i s bits u = ⟨(0, 0), s', bits, u⟩) ∧ (B = true → plM want (ops.drop i) i s bits u = plM want (ops.drop i') i' s' bits u ∧ ∃ o, ops[i']? = some o ∧ cnM bits o.cnd = true ∧ ¬ o.kind < 5) := by
  intro d
  induction d with
  | zero =>
    intro i s hd B i' s' h
    rw [askM_end (by omega)] at h
    injection h with h1 h
    injection h with h2 h3
    subst h1 h2 h3
    refine ⟨Nat.le_refl _, fun _ => ?_, fun e => by cases e⟩
    rw [List.drop_eq_nil_of_le (by omega)]
    rfl
  | succ d ih =>
    intro i s hd B i' s' h
    have hi : i < ops.length := by omega
    have ho : ops[i]? = some ops[i] := List.getElem?_eq_getElem hi
    have hdr := List.drop_eq_getElem_cons hi
    rw [askM_step ho] at h
    by_cases hc : cnM bits (ops[i]).cnd = false
    · rw [if_pos hc] at h
      obtain ⟨h1, h2, h3⟩ := ih (i + 1) s (by omega) B i' s' h
      rw [hdr, plM_skip hc]
      exact ⟨by omega, h2, h3⟩
    · rw [if_neg hc] at h
      have hc' : cnM bits (ops[i]).cnd = true := by simpa using hc
      by_cases hk : (ops[i]).kind < 5
      · rw [if_pos hk] at h
        obtain ⟨h1, h2, h3⟩ := ih (i + 1) _ (by omega) B i' s' h
        rw [hdr, plM_gate hc' hk]
        exact ⟨by omega, h2, h3⟩
      · rw [if_neg hk] at h
        injection h with h1 h
        injection h with h2 h3
        subst h1 h2 h3
        exact ⟨Nat.le_refl _, (fun e => by cases e), fun _ => ⟨rfl, _, ho, hc', hk⟩⟩

theorem opS_info : (Tryz.prog.info? 60).map (·.size) = some (#[Value.bool true, Value.bool true, Value.bool true, Value.bool true, Value.bool true, Value.bool true] : Array Value).size := by kernel_rfl

set_option maxRecDepth 100000 in
set_option maxHeartbeats 4000000 in
theorem asks_any (w0 w : World) (B R : Nat) (oa : Option Addr) (no co i bw qn cw bb : Nat) (bits : List Int) (tv : Value) (u : Nat) (s : Nat → Nm) (ops : List Gop)
    (h : RunA w0 w B R oa no co i bw (2 ^ qn) cw bb bits tv u s i) (hO : OpsAt w0 oa no ops) (hqn : qn ≤ 12) (hno : no ≤ 4096) (hbl : bits.length ≤ 12) (hfit : ∀ o ∈ ops, opCode o qn bits.length = 0 ∧ PlFit o qn bits.length) (hbr : Bru w0) (hi : i ≤ no)
    (Bq : Bool) (iq : Nat) (sq : Nat → Nm) (hq : askM bits (ops.drop i) i s = (Bq, iq, sq)) :
    Calls Tryz.prog 52 #[.pointer (some ⟨R, 0, none⟩)] w fun e w' => e = .returned (.bool Bq) ∧ RunA w0 w' B R oa no co iq bw (2 ^ qn) cw bb bits tv u sq iq ∧ iq ≤ no := by
  obtain ⟨n, hn⟩ : ∃ n, 2 ^ qn = n := ⟨_, rfl⟩
  have Hdo := Lib.hid (fun (wx : World) (o : Gop) (a1 : Option Addr) (n1 c1 : Nat) (a2 : Option Addr) (n2 c2 : Nat) (sx : Nat → Nm) (ix : Nat) (hx : WvA wx bw (2 ^ qn) sx ix) (hix : ix ≤ 4096) (hb : Bru wx) (ho : o ∈ ops) (hk : o.kind < 5) (hI : IntsAt wx a1 n1 o.ctl) (hn1 : n1 ≤ 1000) =>
    do_any bw cw qn bits.length o a1 n1 c1 a2 n2 c2 sx ix wx hx hqn (by omega) hb (hfit o ho).2 (fun e => phase_free (hfit o ho).1 e) hk hI hn1)
  rw [hn] at h Hdo ⊢
  have HO := Lib.hid hO; have Hno := Lib.hid hno; have Hbl := Lib.hid hbl; have Hfit := Lib.hid hfit; have Hbr := Lib.hid hbr; have Hq := Lib.hid hq; have Hh := Lib.hid h; have Hi := Lib.hid hi
  have Hqn := Lib.hid hqn
  clear hO hno hbl hfit hbr hq h hi hn hqn
  go_enter Tryz.func52, Tryz.ntmps52
  go_wp2_with fail
  go_loopg [3] (no + 1 - i) (fun kk _ wr => ∃ (ix : Nat) (sx : Nat → Nm), RunA w0 wr B R oa no co ix bw n cw bb bits tv u sx ix ∧ ix ≤ no ∧ no + 1 - ix = kk ∧ askM bits (ops.drop ix) ix sx = (Bq, iq, sq))
  case atStart => exact ⟨i, s, Hh.out, Hi.out, rfl, Hq.out⟩
  case round =>
    obtain ⟨ix, sx, hr, hix, hk, ha⟩ := hrel
    have HR := Lib.hid hr; have Hix := Lib.hid hix; have Hk := Lib.hid hk; have Ha := Lib.hid ha
    have x0 := hr.c0; have x1 := hr.c1; have x2 := hr.c2
    clear hr hix hk ha
    by_cases hlt : ix = no
    · have q1 : ¬ (ix : Int) < (no : Int) := by omega
      have HBq := Lib.hid (show false = Bq ∧ ix = iq ∧ sx = sq by
        have := Ha.out
        rw [askM_end (by have := HO.out.1; omega)] at this
        injection this with h1 h
        injection h with h2 h3
        exact ⟨h1, h2, h3⟩)
      clear hlt x2
      go_upto_region 1 with fail
      go_region
      have Hend := Lib.hid (show RunA w0 wr.drew B R oa no co iq bw n cw bb bits tv u sq iq ∧ iq ≤ no by
        obtain ⟨_, h2, h3⟩ := HBq.out
        rw [← h2, ← h3]
        exact ⟨HR.out.ext' (Below.drew (Ext.refl _)), Hix.out⟩)
      clear x0 x1 Hdo
      go_wp2_with fail
      go_ret
      exact ⟨congrArg (fun b => Ending.returned (Value.bool b)) HBq.out.1, Hend.out⟩
    · have hlt' : ix < no := by have := Hix.out; omega
      have hl := HO.out.1
      have ho : ops[ix]? = some ops[ix] := List.getElem?_eq_getElem (by omega)
      obtain ⟨o, hoo⟩ : ∃ o, ops[ix] = o := ⟨_, rfl⟩
      rw [hoo] at ho
      have hmem : o ∈ ops := by rw [← hoo]; exact List.getElem_mem _
      obtain ⟨b, off, rfl, hb, hc⟩ := (HO.out.ext HR.out.ext).2.resolve_left (by omega)
      obtain ⟨a1, n1, c1, a2, n2, c2, k0, k1, k2, k3, k4, k5, hL⟩ := hc ix o ho
      obtain ⟨kd, hkd⟩ : ∃ kd, o.kind = kd := ⟨_, rfl⟩
      obtain ⟨ka, hka⟩ : ∃ ka, o.k = ka := ⟨_, rfl⟩
      obtain ⟨kq, hkq⟩ : ∃ kq, o.q = kq := ⟨_, rfl⟩
      obtain ⟨kb, hkb⟩ : ∃ kb, o.bit = kb := ⟨_, rfl⟩
      rw [hkd] at k0; rw [hka] at k1; rw [hkq] at k3; rw [hkb] at k4
      have q1 : (ix : Int) < (no : Int) := by omega
      have q0 : (0 : Int) ≤ (ix : Int) := by omega
      clear hc hb hl hoo hlt hlt'
      go_upto_region 1 with fail
      go_region
      go_upto_region 3 with fail
      have y0 := fun ob => old1 x0 ob; have y1 := fun ob => old1 x1 ob
      have j0 := fun ob => old1 k0 ob; have j1 := fun ob => old1 k1 ob; have j2 := fun ob => old1 k2 ob; have j3 := fun ob => old1 k3 ob; have j4 := fun ob => old1 k4 ob; have j5 := fun ob => old1 k5 ob
      go_region
      clear y0 y1 j0 j1 j2 j3 j4 j5 k0 k1 k2 k3 k4 k5
      go_upto_region 4 with fail
      obtain ⟨D, hD⟩ : ∃ D, wr.heap.size = D := ⟨_, rfl⟩
      obtain ⟨V, hV⟩ : ∃ V, (wr.alloc (.cells #[.int .i64 kd, .int .i64 ka, .slice a1 n1 c1, .int .i64 kq, .int .i64 kb, .slice a2 n2 c2] 60)).drew.drew = V := ⟨_, rfl⟩
      have EV : Ext wr V := by rw [← hV]; exact Below.drew (Below.drew (ext_alloc _ _))
      have rD : V.heap[D]? = some (.cells #[.int .i64 kd, .int .i64 ka, .slice a1 n1 c1, .int .i64 kq, .int .i64 kb, .slice a2 n2 c2] 60 (0, 0)) := by rw [← hV, ← hD]; exact heap_alloc_new wr _
      rw [hV, hD]
      have HV := Lib.hid (HR.out.ext' EV)
      have HLV := Lib.hid (hL.ext EV)
      obtain ⟨hcode, hpl⟩ := Hfit.out o hmem
      obtain ⟨_, _, hf12, _⟩ := fit_of_code (n := qn) (by have := Hqn.out; omega) (by omega) (by have := Hbl.out; omega) hcode
      have Hn1 := Lib.hid (show n1 ≤ 1000 by have := hL.i1.1; omega)
      have Hme := Lib.hid (meets_run R a2 (some ⟨bb, 0, none⟩) n2 c2 bits.length bits.length o.cnd bits V HLV.out.i2 HV.out.bits' (by have := hL.i2.1; have := hpl.few; omega) Hbl.out HV.out.c3 hpl.cnd)
      have Hst := Lib.hid (askM_step (bits := bits) (s := sx) ho)
      have Hkd := Lib.hid hpl.kd
      have m1 := HV.out.c1; have m2 := HV.out.c2; have mf := HV.out.f 1
      have d0 : V.cell? ⟨D, 0, none⟩ = some (.int .i64 kd) := by rw [cell_of_row V D 0 _ _ (0, 0) rD]; rfl
      have d5 : V.cell? ⟨D, 5, none⟩ = some (.slice a2 n2 c2) := by rw [cell_of_row V D 5 _ _ (0, 0) rD]; rfl
      have Hkk := Lib.hid (show o.kind = kd ∧ o.k = ka ∧ o.q = kq ∧ o.bit = kb from ⟨hkd, hka, hkq, hkb⟩)
      have Hmem := Lib.hid hmem; have HD := Lib.hid hD; have HEV := Lib.hid EV
      have wk : IntKind.i64.wrap ((ix : Int) + 1) = ((ix + 1 : Nat) : Int) := by rw [IntKind.wrap_i64]; have := Hno.out; have := Hix.out; omega
      have Hlt := Lib.hid (show ix + 1 ≤ no by omega)
      clear hV hD EV hL hcode hpl hf12 hkd hka hkq hkb hmem ho x0 x1 x2 q0 q1
      cases hcn : cnM bits o.cnd with
      | false =>
        rw [hcn] at Hme
        have Hr := Lib.hid (show askM bits (ops.drop (ix + 1)) (ix + 1) sx = (Bq, iq, sq) by rw [← Ha.out, Hst.out, if_pos hcn])
        clear hcn
        go_wp2_with fail
        refine Hme.out.mono ?_
        rintro e w2 ⟨rfl, rfl⟩
        have Hend := Lib.hid ((HV.out.at' (ix + 1)))
        clear Hme
        go_wp2_with fail
        go_roundg (no + 1 - (ix + 1))
        case measure => have := Hk.out; have := Hlt.out; omega
        case rel => exact ⟨ix + 1, sx, ⟨Hend.out.ext, Hend.out.row, Hend.out.bit, Hend.out.own, Hend.out.wav.le (Nat.le_succ _), Hend.out.hR, Hend.out.hb, Hend.out.hw, Hend.out.hB⟩, Hlt.out, rfl, Hr.out⟩
      | true =>
        rw [hcn] at Hme
        by_cases hk5 : kd < 5
        · have Hr := Lib.hid (show askM bits (ops.drop (ix + 1)) (ix + 1) (gt o sx) = (Bq, iq, sq) by rw [← Ha.out, Hst.out, if_neg (by rw [hcn]; decide), if_pos (by rw [Hkk.out.1]; exact hk5)])
          have b5 : (kd == 5) = false := by simp; omega
          have b6 : (kd == 6) = false := by simp; omega
          have Hk5 := Lib.hid hk5
          clear hcn hk5
          go_wp2_with fail
          refine Hme.out.mono ?_
          rintro e w2 ⟨rfl, hw2⟩
          have hw2 := hw2.symm
          subst hw2
          clear Hme
          go_upto_region 7 with fail
          have hd0 : Ext V V.drew := Below.drew (Ext.refl _)
          have lR := World.block_lt_of_cell? V ⟨R, 2, none⟩ m2
          have lD := (Array.getElem?_eq_some_iff.1 rD).1
          refine wp_region_K 5 (fun w' => w'.cell? ⟨R, 2, none⟩ = some (.slice (some ⟨bw, 0, none⟩) n cw) ∧ w'.heap[D]? = some (.cells #[.int .i64 kd, .int .i64 ka, .slice a1 n1 c1, .int .i64 kq, .int .i64 kb, .slice a2 n2 c2] 60 (0, 0))) (by kernel_rfl) ?_
          show anyK _ _ _ _ _ _ 6 #[false, false, false, false, false, false] _ _
          have hHeld : V.drew.cell? ⟨R, 2, none⟩ = some (.slice (some ⟨bw, 0, none⟩) n cw) ∧ V.drew.heap[D]? = some (.cells #[.int .i64 kd, .int .i64 ka, .slice a1 n1 c1, .int .i64 kq, .int .i64 kb, .slice a2 n2 c2] 60 (0, 0)) := ⟨cellKeep hd0 lR m2, (hd0.block D lD).trans rD⟩
          refine anyK_take (i := 0) (v := ?_) rfl (by kernel_rfl) (by kernel_rfl) (by kernel_rfl) (N := 6) (by kernel_rfl) (by kernel_rfl) (by kernel_rfl) (fun _ _ _ h => h) (Or.inl ⟨by rfl, ?_⟩) hHeld ?_
          rotate_left 1
          · intro w hSw
            go_simp
            try with_reducible rfl
          show anyK _ _ _ _ _ _ _ _ (Act.put _ (some 44) _) _
          simp only [Act.put, List.setIfInBounds_toArray, List.set_cons_zero, List.set_cons_succ]
          refine anyK_take (i := 1) (v := ?_) rfl (by kernel_rfl) (by kernel_rfl) (by kernel_rfl) (N := 6) (by kernel_rfl) (by kernel_rfl) (by kernel_rfl) (fun _ _ _ h => h) (Or.inl ⟨by rfl, ?_⟩) hHeld ?_
          rotate_left 1
          · intro w hSw
            go_simp
            try with_reducible rfl
          show anyK _ _ _ _ _ _ _ _ (Act.put _ (some 45) _) _
          simp only [Act.put, List.setIfInBounds_toArray, List.set_cons_zero, List.set_cons_succ]
          refine anyK_take (i := 2) (v := ?_) rfl (by kernel_rfl) (by kernel_rfl) (by kernel_rfl) (N := 6) (by kernel_rfl) (by kernel_rfl) (by kernel_rfl) (fun _ _ _ h => h) (Or.inl ⟨by rfl, ?_⟩) hHeld ?_
          rotate_left 1
          · intro w hSw
            go_simp
            try with_reducible rfl
          show anyK _ _ _ _ _ _ _ _ (Act.put _ (some 46) _) _
          simp only [Act.put, List.setIfInBounds_toArray, List.set_cons_zero, List.set_cons_succ]
          refine anyK_take (i := 3) (v := ?_) rfl (by kernel_rfl) (by kernel_rfl) (by kernel_rfl) (N := 6) (by kernel_rfl) (by kernel_rfl) (by kernel_rfl) (fun _ _ _ h => h) (Or.inl ⟨by rfl, ?_⟩) hHeld ?_
          rotate_left 1
          · intro w hSw
            go_simp
            try with_reducible rfl
          show anyK _ _ _ _ _ _ _ _ (Act.put _ (some 47) _) _
          simp only [Act.put, List.setIfInBounds_toArray, List.set_cons_zero, List.set_cons_succ]
          refine anyK_take (i := 4) (v := .agg #[.int .i64 kd, .int .i64 ka, .slice a1 n1 c1, .int .i64 kq, .int .i64 kb, .slice a2 n2 c2]) rfl (by kernel_rfl) (by kernel_rfl) (by kernel_rfl) (N := 6) (by kernel_rfl) (by kernel_rfl) (by kernel_rfl) (fun _ _ _ h => h) (Or.inl ⟨by rfl, fun _ h => exec_load_row 60 _ rfl D rfl 60 _ (0, 0) _ h.2 Tryz.underlying60 rfl opS_info⟩) hHeld ?_
          show anyK _ _ _ _ _ _ _ _ (Act.put _ (some 48) _) _
          simp only [Act.put, List.setIfInBounds_toArray, List.set_cons_zero, List.set_cons_succ]
          clear hHeld
          refine anyK_one (i := 5) (by kernel_rfl) rfl (fun Kk hKk => ?_)
          go_simp
          have Hd := Lib.hid (Hdo.out V.drew o a1 n1 c1 a2 n2 c2 sx ix (HV.out.wav.ext hd0) (by have := Hno.out; have := Hix.out; omega) (bru_ext Hbr.out (HV.out.ext.trans hd0)) Hmem.out (by rw [Hkk.out.1]; exact Hk5.out) (HLV.out.i1.ext hd0) Hn1.out)
          rw [Hkk.out.1, Hkk.out.2.1, Hkk.out.2.2.1, Hkk.out.2.2.2] at Hd
          (go_at_call 83; refine Hd.out.mono ?_; rintro e w3 ⟨⟨v3, rfl⟩, hw3, hc3⟩)
          go_wp2_with fail
          refine hKk.out _ _ (fun h => Bool.noConfusion (show true = false from h)) ?_
          clear hKk Kk Hd
          simp only [List.setIfInBounds_toArray, List.set_cons_zero, List.set_cons_succ]
          refine anyK_done (by kernel_rfl) ?_ _
          have H3 := Lib.hid ((HV.out.ext' hd0).wave hc3 hw3)
          have m1 := H3.out.c1; have mf := H3.out.f 1
          have Hend := Lib.hid (H3.out.at' (ix + 1))
          clear hw3 hc3 hd0 lR lD rD m2 d0 d5 b5 b6
          go_wp2_with fail
          go_roundg (no + 1 - (ix + 1))
          case measure => have := Hk.out; have := Hlt.out; omega
          case rel => exact ⟨ix + 1, gt o sx, Hend.out, Hlt.out, rfl, Hr.out⟩
        · have HBq := Lib.hid (show true = Bq ∧ ix = iq ∧ sx = sq by
            have h0 := Ha.out
            rw [Hst.out, if_neg (by rw [hcn]; decide), if_neg (by rw [Hkk.out.1]; exact hk5)] at h0
            injection h0 with h1 h
            injection h with h2 h3
            exact ⟨h1, h2, h3⟩)
          have Hend := Lib.hid (show RunA w0 V B R (some ⟨b, off, none⟩) no co iq bw n cw bb bits tv u sq iq ∧ iq ≤ no by
            obtain ⟨_, h2, h3⟩ := HBq.out
            rw [← h2, ← h3]
            exact ⟨HV.out, Hix.out⟩)
          have hk56 : kd = 5 ∨ kd = 6 := by have := Hkd.out; have := Hkk.out.1; omega
          clear hcn hk5
          rcases hk56 with rfl | rfl
          · go_wp2_with fail
            refine Hme.out.mono ?_
            rintro e w2 ⟨rfl, rfl⟩
            clear Hme
            go_wp2_with fail
            go_ret
            exact ⟨congrArg (fun b => Ending.returned (Value.bool b)) HBq.out.1, Hend.out⟩
          · go_wp2_with fail
            refine Hme.out.mono ?_
            rintro e w2 ⟨rfl, rfl⟩
            clear Hme
            go_wp2_with fail
            go_ret
            exact ⟨congrArg (fun b => Ending.returned (Value.bool b)) HBq.out.1, Hend.out⟩
end Go.Proofs.YtfjnlopbmkimiaaGreatDoor
namespace Go.Proofs.YtfjnlopbmkimiaaGreatDoor
open Go.RowKit

theorem xop_fit {q : Int} {n : Nat} (b : Nat) (h0 : 0 ≤ q) (hq : q < n) : PlFit (xOp q) n b :=
  ⟨⟨by simp [xOp], by simp [xOp]⟩, ⟨h0, hq⟩, (fun c hc => by simp [xOp] at hc), (fun c hc => by simp [xOp] at hc), (fun h => by simp [xOp] at h), (fun t ht => by simp [xOp] at ht), by simp [xOp]⟩
theorem ownI_some {w : World} {e : TypeId} {v : Value} {l : List Int} {x : Int} (h : OwnI w e v (l ++ [x])) : ∃ g n cap, v = .slice (some ⟨g, 0, none⟩) n cap := by
  rcases h with ⟨_, h⟩ | ⟨g, cap, cur, h, _⟩
  · simp at h
  · exact ⟨g, _, cap, h⟩
theorem cell4 {w : World} {R : Nat} {v0 v1 v2 v3 v4 : Value} {t : TypeId} (h : w.heap[R]? = some (.cells #[v0, v1, v2, v3, v4] t (0, 0))) : w.cell? ⟨R, 4, none⟩ = some v4 := by
  rw [cell_of_row w R 4 _ _ (0, 0) h]; rfl
theorem run_tape {w0 w : World} {B R : Nat} {oa : Option Addr} {no co i bw n cw bb : Nat} {bits : List Int} {tv : Value} {u : Nat} {s : Nat → Nm} {N : Nat} (h : RunA w0 w B R oa no co i bw n cw bb bits tv u s N) : ∃ ta tc, tv = .slice ta u tc := by
  obtain ⟨tl, t1, t2 | ⟨g, cap, cur, hv, _⟩, _⟩ := h.own
  · obtain ⟨h1, h2⟩ := t2
    rw [h2] at t1
    exact ⟨none, 0, by rw [h1, ← t1]; rfl⟩
  · exact ⟨_, cap, by rw [hv, t1]⟩
/-- What an outcome leaves of a state. -/
noncomputable def tkS (o : Gop) (v : Int) (s : Nat → Nm) : Nat → Nm := if o.kind = 5 then oc o.q v s else if v = 1 then gt (xOp o.q) (oc o.q 1 s) else oc o.q 0 s
/-- .. and of the bits. -/
def tkB (o : Gop) (v : Int) (bits : List Int) : List Int := if o.kind = 5 then bits.set o.bit.toNat v else bits

set_option maxRecDepth 100000 in
set_option maxHeartbeats 4000000 in
/-- An outcome is taken of a wave. -/
theorem wtake_any (bw cw qn nb : Nat) (o : Gop) (a1 : Option Addr) (n1 c1 : Nat) (a2 : Option Addr) (n2 c2 : Nat) (v : Int) (hv : v = 0 ∨ v = 1) (s : Nat → Nm) (N : Nat) (w : World) (h : WvA w bw (2 ^ qn) s N) (hqn : qn ≤ 12) (hpl : PlFit o qn nb) (hk5 : ¬ o.kind < 5) :
    Calls Tryz.prog 84 #[.slice (some ⟨bw, 0, none⟩) (2 ^ qn) cw, .agg #[.int .i64 o.kind, .int .i64 o.k, .slice a1 n1 c1, .int .i64 o.q, .int .i64 o.bit, .slice a2 n2 c2], .int .i64 v] w fun e w' => (∃ x, e = .returned x) ∧ WvA w' bw (2 ^ qn) (tkS o v s) (N + 1) ∧ Chg bw w w' := by
  have hn4 : 2 ^ qn ≤ 4096 := Nat.le_trans (Nat.pow_le_pow_right (by decide) hqn) (by decide)
  have hq1 := q1_lt hpl.q.1 hpl.q.2 hqn
  have hin : ∀ x, x < 2 ^ qn → x ||| q1 o.q < 2 ^ qn := fun x hx => Nat.or_lt_two_pow hx (by unfold q1; exact Nat.pow_lt_pow_right (by decide) (by have := hpl.q; omega))
  have hne : ∀ x, x &&& (0 ||| q1 o.q) = 0 → x ≠ x ||| q1 o.q := fun x hx e => by
    rw [Nat.zero_or, and_q1] at hx
    have hp := q1_pos o.q
    have hb : bt x o.q = false := by
      cases hb : bt x o.q
      · rfl
      · rw [hb] at hx; simp at hx; omega
    have h2 := congrArg (fun z => z.testBit o.q.toNat) e
    simp only [Nat.testBit_or, q1_bit] at h2
    unfold bt at hb
    rw [hb] at h2
    simp at h2
  have hqs : ∀ c ∈ [o.q], 0 ≤ c ∧ c < 19 := fun c hc => by
    rw [List.mem_singleton] at hc
    have := hpl.q
    omega
  have Xd := Lib.hid (fun (wx : World) (hx : WvA wx bw (2 ^ qn) s N) => drop_any bw (2 ^ qn) cw (q1 o.q) (1 - v) (by omega) s N wx hx hn4 hq1)
  have Xx := Lib.hid (fun (wx : World) (sx : Nat → Nm) (ix : Nat) (hx : WvA wx bw (2 ^ qn) sx ix) => exchange_any bw (2 ^ qn) cw 0 (q1 o.q) sx ix wx hx hn4 (by decide) hq1 hin hne)
  have Go1 := Lib.hid (fun (wx : World) (hx : WvA wx bw (2 ^ qn) (drS (if 1 - v = 1 then q1 o.q else 0) (q1 o.q) (2 ^ qn) s) (N + 4096)) => hx.is (M := N) (fun y hy => dr_oc hv hy) (oc_amp h.amp))
  have Gx := Lib.hid (fun (wx : World) (sx : Nat → Nm) (ix : Nat) (ha : ∀ x, Amp ix (sx x)) (hx : WvA wx bw (2 ^ qn) (exS 0 (q1 o.q) (2 ^ qn) sx) (ix + 4096)) => hx.is (M := ix + 1) (fun y hy => x_gt (o := xOp o.q) (xop_fit nb hpl.q.1 hpl.q.2) rfl hy) (gt_amp ha))
  have Hset2 := Lib.hid (fun (wx : World) (ao : Option Addr) (hx : IntsAt wx ao 1 [o.q]) => set_any ao 1 1 [o.q] wx hx (by decide) hqs)
  rw [msk_one] at Hset2
  obtain ⟨mq, hmq⟩ : ∃ mq, q1 o.q = mq := ⟨_, rfl⟩
  obtain ⟨n, hnn⟩ : ∃ n, 2 ^ qn = n := ⟨_, rfl⟩
  rw [hnn] at h Xd Xx Go1 Gx ⊢
  rw [hmq] at Xd Xx Go1 Gx Hset2
  have HR := Lib.hid h; have Hv := Lib.hid hv
  have hkd56 : o.kind = 5 ∨ o.kind = 6 := by have := hpl.kd; omega
  obtain ⟨kd, hkd⟩ : ∃ kd, o.kind = kd := ⟨_, rfl⟩
  obtain ⟨ka, hka⟩ : ∃ ka, o.k = ka := ⟨_, rfl⟩
  obtain ⟨kq, hkq⟩ : ∃ kq, o.q = kq := ⟨_, rfl⟩
  obtain ⟨kb, hkb⟩ : ∃ kb, o.bit = kb := ⟨_, rfl⟩
  have HtS := Lib.hid (show tkS o v s = if kd = 5 then oc kq v s else if v = 1 then gt (xOp kq) (oc kq 1 s) else oc kq 0 s by unfold tkS; rw [hkd, hkq])
  obtain ⟨s2, hs2⟩ : ∃ s2 : Nat → Nm, tkS o v s = s2 := ⟨_, rfl⟩
  rw [hs2] at HtS ⊢
  clear hs2
  rw [hkd, hka, hkq, hkb]
  rw [hkd] at hkd56; rw [hkq] at Hset2 Go1 Gx
  obtain ⟨v1, hv1⟩ : ∃ v1, 1 - v = v1 := ⟨_, rfl⟩
  have w1 : IntKind.i64.wrap (1 - v) = v1 := by rw [IntKind.wrap_i64]; omega
  rw [hv1] at Xd Go1
  obtain ⟨D, hD⟩ : ∃ D, w.heap.size = D := ⟨_, rfl⟩
  obtain ⟨V, hV⟩ : ∃ V, w.alloc (.cells #[.int .i64 kd, .int .i64 ka, .slice a1 n1 c1, .int .i64 kq, .int .i64 kb, .slice a2 n2 c2] 60) = V := ⟨_, rfl⟩
  have EV : Ext w V := by rw [← hV]; exact ext_alloc _ _
  have rD : V.heap[D]? = some (.cells #[.int .i64 kd, .int .i64 ka, .slice a1 n1 c1, .int .i64 kq, .int .i64 kb, .slice a2 n2 c2] 60 (0, 0)) := by rw [← hV, ← hD]; exact heap_alloc_new w _
  have hDb : D ≠ bw := by
    have := h.at'.lt
    omega
  have HV := Lib.hid (h.ext EV)
  have d3 : V.cell? ⟨D, 3, none⟩ = some (.int .i64 kq) := by rw [cell_of_row V D 3 _ _ (0, 0) rD]; rfl
  have HDb := Lib.hid hDb; have HrD := Lib.hid rD; have HEV := Lib.hid EV; have HhV := Lib.hid hV; have HhD := Lib.hid hD
  clear h hqn hpl hk5 hn4 hq1 hin hne hqs hmq hnn hkd hka hkq hkb hv hv1 hV hD EV hDb rD
  go_enter Tryz.func84, Tryz.ntmps84
  go_upto_region 1 with fail
  rw [HhV.out, HhD.out]
  go_wp2_with fail
  refine (Hset2.out _ _ (ints_one V kq)).mono ?_
  rintro e w2 ⟨rfl, rfl⟩
  have EU := ext_alloc V (.cells #[.int .i64 kq] 3)
  have HU := Lib.hid (HV.out.ext EU)
  have HrU := Lib.hid ((EU.block D (Array.getElem?_eq_some_iff.1 HrD.out).1).trans HrD.out)
  have HEU := Lib.hid (HEV.out.trans EU)
  generalize V.alloc (.cells #[.int .i64 kq] 3) = U at *
  clear d3 EU HV Hset2 HrD HhV HhD HEV
  go_wp2_with fail
  refine (Xd.out U HU.out).mono ?_
  rintro e w3 ⟨⟨x3, rfl⟩, hw3, hc3⟩
  have H3 := Lib.hid (Go1.out w3 hw3)
  have HC3 := Lib.hid ((Chg.of_ext (g := bw) HEU.out).trans hc3)
  have r3 := (hc3.block D HDb.out (Array.getElem?_eq_some_iff.1 HrU.out).1).trans HrU.out
  have d0 : w3.cell? ⟨D, 0, none⟩ = some (.int .i64 kd) := by rw [cell_of_row w3 D 0 _ _ (0, 0) r3]; rfl
  clear hw3 hc3 r3 Xd Go1 HU HrU
  rcases hkd56 with rfl | rfl
  · have Hend := Lib.hid (show WvA w3 bw n s2 (N + 1) by rw [HtS.out, if_pos rfl]; exact H3.out.le (Nat.le_succ _))
    clear H3 Xx Gx Hv HtS
    go_wp2_with fail
    go_end0
    exact ⟨⟨_, rfl⟩, Hend.out, HC3.out⟩
  rcases Hv.out with rfl | rfl
  · have Hend := Lib.hid (show WvA w3 bw n s2 (N + 1) by rw [HtS.out, if_neg (by decide), if_neg (by decide)]; exact H3.out.le (Nat.le_succ _))
    clear H3 Xx Gx Hv HtS
    go_wp2_with fail
    go_end0
    exact ⟨⟨_, rfl⟩, Hend.out, HC3.out⟩
  · have Hx1 := Lib.hid (Xx.out w3 _ N H3.out)
    go_wp2_with fail
    refine Hx1.out.mono ?_
    rintro e w5 ⟨⟨x5, rfl⟩, hw5, hc5⟩
    have Hend := Lib.hid (show WvA w5 bw n s2 (N + 1) by rw [show s2 = gt (xOp kq) (oc kq 1 s) by rw [HtS.out]; simp]; exact Gx.out w5 _ N H3.out.amp hw5)
    have HC5 := Lib.hid (HC3.out.trans hc5)
    clear H3 Xx Gx Hv HtS hw5 hc5 d0 Hx1
    go_wp2_with fail
    go_end0
    exact ⟨⟨_, rfl⟩, Hend.out, HC5.out⟩

set_option maxRecDepth 100000 in
set_option maxHeartbeats 4000000 in
theorem take_any (w0 w : World) (B R : Nat) (oa : Option Addr) (no co i bw qn cw bb : Nat) (bits : List Int) (tv : Value) (u : Nat) (s : Nat → Nm) (ops : List Gop) (v : Int) (hv : v = 0 ∨ v = 1) (o : Gop)
    (h : RunA w0 w B R oa no co i bw (2 ^ qn) cw bb bits tv u s i) (hO : OpsAt w0 oa no ops) (hqn : qn ≤ 12) (hno : no ≤ 4096) (ho : ops[i]? = some o) (hpl : PlFit o qn bits.length) (hk5 : ¬ o.kind < 5) (hu : u ≤ 5000) :
    Calls Tryz.prog 53 #[.pointer (some ⟨R, 0, none⟩), .int .i64 v] w fun e w' => (∃ x, e = .returned x) ∧ ∃ tv', RunA w0 w' B R oa no co (i + 1) bw (2 ^ qn) cw bb (tkB o v bits) tv' (u + 1) (tkS o v s) (i + 1) := by
  obtain ⟨ta, tc, rfl⟩ : ∃ ta tc, tv = .slice ta u tc := run_tape h
  have hn4 : 2 ^ qn ≤ 4096 := Nat.le_trans (Nat.pow_le_pow_right (by decide) hqn) (by decide)
  have hi : i < no := by
    have h1 := (List.getElem?_eq_some_iff.1 ho).1
    have := hO.1
    omega
  have Htk := Lib.hid (fun (wx : World) (a1 : Option Addr) (n1 c1 : Nat) (a2 : Option Addr) (n2 c2 : Nat) (hx : WvA wx bw (2 ^ qn) s i) => wtake_any bw cw qn bits.length o a1 n1 c1 a2 n2 c2 v hv s i wx hx hqn hpl hk5)
  obtain ⟨n, hnn⟩ : ∃ n, 2 ^ qn = n := ⟨_, rfl⟩
  rw [hnn] at h Htk ⊢
  have HR := Lib.hid h; have Hhi := Lib.hid hi; have Hno := Lib.hid hno; have Hu := Lib.hid hu; have Hv := Lib.hid hv
  have hbit := hpl.bit
  obtain ⟨b, off, rfl, hb, hc⟩ := (hO.ext h.ext).2.resolve_left (by omega)
  obtain ⟨a1, n1, c1, a2, n2, c2, k0, k1, k2, k3, k4, k5, hL⟩ := hc i o ho
  have x0 := h.c0; have x1 := h.c1
  have hkd56 : o.kind = 5 ∨ o.kind = 6 := by have := hpl.kd; omega
  obtain ⟨kd, hkd⟩ : ∃ kd, o.kind = kd := ⟨_, rfl⟩
  obtain ⟨ka, hka⟩ : ∃ ka, o.k = ka := ⟨_, rfl⟩
  obtain ⟨kq, hkq⟩ : ∃ kq, o.q = kq := ⟨_, rfl⟩
  obtain ⟨kb, hkb⟩ : ∃ kb, o.bit = kb := ⟨_, rfl⟩
  have HtB := Lib.hid (show tkB o v bits = if kd = 5 then bits.set kb.toNat v else bits by unfold tkB; rw [hkd, hkb])
  obtain ⟨b2, s2, hb2, hs2⟩ : ∃ (b2 : List Int) (s2 : Nat → Nm), tkB o v bits = b2 ∧ tkS o v s = s2 := ⟨_, _, rfl, rfl⟩
  rw [hb2, hs2]
  rw [hb2] at HtB; rw [hs2] at Htk
  clear hb2 hs2
  rw [hkd] at k0 hbit hkd56; rw [hka] at k1; rw [hkq] at k3; rw [hkb] at k4 hbit
  rw [hkd, hka, hkq, hkb] at Htk
  have Hbit := Lib.hid hbit
  have q1' : (i : Int) < (no : Int) := by omega
  have q0 : (0 : Int) ≤ (i : Int) := by omega
  have wk : IntKind.i64.wrap ((i : Int) + 1) = ((i + 1 : Nat) : Int) := by rw [IntKind.wrap_i64]; omega
  clear h hO hqn hno ho hpl hk5 hu hn4 hi hnn hbit hc hb hL hkd hka hkq hkb hv
  have y0 := fun ob => old1 x0 ob; have y1 := fun ob => old1 x1 ob
  have j0 := fun ob => old1 k0 ob; have j1 := fun ob => old1 k1 ob; have j2 := fun ob => old1 k2 ob; have j3 := fun ob => old1 k3 ob; have j4 := fun ob => old1 k4 ob; have j5 := fun ob => old1 k5 ob
  go_enter Tryz.func53, Tryz.ntmps53
  go_upto_region 0 with fail
  go_region
  clear y0 y1 j0 j1 j2 j3 j4 j5 k0 k1 k2 k3 k4 k5 x0 x1 q0 q1'
  go_upto_region 1 with fail
  obtain ⟨D, hD⟩ : ∃ D, w.heap.size = D := ⟨_, rfl⟩
  obtain ⟨V, hV⟩ : ∃ V, (w.alloc (.cells #[.int .i64 kd, .int .i64 ka, .slice a1 n1 c1, .int .i64 kq, .int .i64 kb, .slice a2 n2 c2] 60)).drew = V := ⟨_, rfl⟩
  have EV : Ext w V := by rw [← hV]; exact Below.drew (ext_alloc _ _)
  have rD : V.heap[D]? = some (.cells #[.int .i64 kd, .int .i64 ka, .slice a1 n1 c1, .int .i64 kq, .int .i64 kb, .slice a2 n2 c2] 60 (0, 0)) := by rw [← hV, ← hD]; exact heap_alloc_new w _
  rw [hV, hD]
  have HV := Lib.hid (HR.out.ext' EV)
  have HrD := Lib.hid rD
  have hDb : D ≠ bw := by
    rintro rfl
    obtain ⟨cs, h1, _⟩ := HV.out.wav.at'.row
    rw [h1] at rD
    injection rD with rD
    injection rD with _ rD _
    exact absurd rD (by decide)
  have HDb := Lib.hid hDb
  have m2 := HV.out.c2
  have hd0 : Ext V V.drew := Below.drew (Ext.refl _)
  clear hV hD EV hDb
  refine wp_region_K 6 (fun w' => w'.cell? ⟨R, 2, none⟩ = some (.slice (some ⟨bw, 0, none⟩) n cw) ∧ w'.heap[D]? = some (.cells #[.int .i64 kd, .int .i64 ka, .slice a1 n1 c1, .int .i64 kq, .int .i64 kb, .slice a2 n2 c2] 60 (0, 0))) (by kernel_rfl) ?_
  show anyK _ _ _ _ _ _ 7 #[false, false, false, false, false, false, false] _ _
  have hHeld : V.drew.cell? ⟨R, 2, none⟩ = some (.slice (some ⟨bw, 0, none⟩) n cw) ∧ V.drew.heap[D]? = some (.cells #[.int .i64 kd, .int .i64 ka, .slice a1 n1 c1, .int .i64 kq, .int .i64 kb, .slice a2 n2 c2] 60 (0, 0)) := ⟨cell_ext m2 hd0, (hd0.block D (Array.getElem?_eq_some_iff.1 rD).1).trans rD⟩
  refine anyK_take (i := 0) (v := ?_) rfl (by kernel_rfl) (by kernel_rfl) (by kernel_rfl) (N := 7) (by kernel_rfl) (by kernel_rfl) (by kernel_rfl) (fun _ _ _ h => h) (Or.inl ⟨by rfl, ?_⟩) hHeld ?_
  rotate_left 1
  · intro w hSw
    go_simp
    try with_reducible rfl
  show anyK _ _ _ _ _ _ _ _ (Act.put _ (some 15) _) _
  simp only [Act.put, List.setIfInBounds_toArray, List.set_cons_zero, List.set_cons_succ]
  refine anyK_take (i := 1) (v := ?_) rfl (by kernel_rfl) (by kernel_rfl) (by kernel_rfl) (N := 7) (by kernel_rfl) (by kernel_rfl) (by kernel_rfl) (fun _ _ _ h => h) (Or.inl ⟨by rfl, ?_⟩) hHeld ?_
  rotate_left 1
  · intro w hSw
    go_simp
    try with_reducible rfl
  show anyK _ _ _ _ _ _ _ _ (Act.put _ (some 16) _) _
  simp only [Act.put, List.setIfInBounds_toArray, List.set_cons_zero, List.set_cons_succ]
  refine anyK_take (i := 2) (v := ?_) rfl (by kernel_rfl) (by kernel_rfl) (by kernel_rfl) (N := 7) (by kernel_rfl) (by kernel_rfl) (by kernel_rfl) (fun _ _ _ h => h) (Or.inl ⟨by rfl, ?_⟩) hHeld ?_
  rotate_left 1
  · intro w hSw
    go_simp
    try with_reducible rfl
  show anyK _ _ _ _ _ _ _ _ (Act.put _ (some 17) _) _
  simp only [Act.put, List.setIfInBounds_toArray, List.set_cons_zero, List.set_cons_succ]
  refine anyK_take (i := 3) (v := ?_) rfl (by kernel_rfl) (by kernel_rfl) (by kernel_rfl) (N := 7) (by kernel_rfl) (by kernel_rfl) (by kernel_rfl) (fun _ _ _ h => h) (Or.inl ⟨by rfl, ?_⟩) hHeld ?_
  rotate_left 1
  · intro w hSw
    go_simp
    try with_reducible rfl
  show anyK _ _ _ _ _ _ _ _ (Act.put _ (some 18) _) _
  simp only [Act.put, List.setIfInBounds_toArray, List.set_cons_zero, List.set_cons_succ]
  refine anyK_take (i := 4) (v := .agg #[.int .i64 kd, .int .i64 ka, .slice a1 n1 c1, .int .i64 kq, .int .i64 kb, .slice a2 n2 c2]) rfl (by kernel_rfl) (by kernel_rfl) (by kernel_rfl) (N := 7) (by kernel_rfl) (by kernel_rfl) (by kernel_rfl) (fun _ _ _ h => h) (Or.inl ⟨by rfl, fun _ h => exec_load_row 60 _ rfl D rfl 60 _ (0, 0) _ h.2 Tryz.underlying60 rfl opS_info⟩) hHeld ?_
  show anyK _ _ _ _ _ _ _ _ (Act.put _ (some 19) _) _
  simp only [Act.put, List.setIfInBounds_toArray, List.set_cons_zero, List.set_cons_succ]
  refine anyK_take (i := 5) (v := ?_) rfl (by kernel_rfl) (by kernel_rfl) (by kernel_rfl) (N := 7) (by kernel_rfl) (by kernel_rfl) (by kernel_rfl) (fun _ _ _ h => h) (Or.inl ⟨by rfl, ?_⟩) hHeld ?_
  rotate_left 1
  · intro w hSw
    go_simp
    try with_reducible rfl
  show anyK _ _ _ _ _ _ _ _ (Act.put _ (some 20) _) _
  simp only [Act.put, List.setIfInBounds_toArray, List.set_cons_zero, List.set_cons_succ]
  clear hHeld
  refine anyK_one (i := 6) (by kernel_rfl) rfl (fun Kk hKk => ?_)
  go_simp
  (go_at_call 84; refine (Htk.out V.drew a1 n1 c1 a2 n2 c2 (HV.out.wav.ext hd0)).mono ?_; rintro e w3 ⟨⟨x3, rfl⟩, hw3, hc3⟩)
  go_wp2_with fail
  refine hKk.out _ _ (fun h => Bool.noConfusion (show true = false from h)) ?_
  clear hKk Kk Htk
  simp only [List.setIfInBounds_toArray, List.set_cons_zero, List.set_cons_succ]
  refine anyK_done (by kernel_rfl) ?_ _
  have H3 := Lib.hid ((HV.out.ext' hd0).wave hc3 hw3)
  have r3 := (hc3.block D HDb.out (Nat.lt_of_lt_of_le (Array.getElem?_eq_some_iff.1 HrD.out).1 hd0.size)).trans ((hd0.block D (Array.getElem?_eq_some_iff.1 HrD.out).1).trans HrD.out)
  have d0 : w3.cell? ⟨D, 0, none⟩ = some (.int .i64 kd) := by rw [cell_of_row w3 D 0 _ _ (0, 0) r3]; rfl
  have d4 : w3.cell? ⟨D, 4, none⟩ = some (.int .i64 kb) := by rw [cell_of_row w3 D 4 _ _ (0, 0) r3]; rfl
  clear hw3 hc3 r3 m2 hd0 HV HrD rD
  obtain ⟨i0, hi, hz0, hz1, hz2⟩ := info_parts int_info
  rcases hkd56 with rfl | rfl
  · have hkb := Hbit.out (by trivial)
    obtain ⟨j, rfl⟩ : ∃ j : Nat, kb = (j : Int) := ⟨kb.toNat, by omega⟩
    have hj : j < bits.length := by omega
    have m3 := H3.out.c3
    have bc : w3.cell? ⟨bb, j, none⟩ = some (.int .i64 (bits.getD j 0)) := by
      obtain ⟨_, h1 | ⟨b', o', e', _, h2⟩⟩ := H3.out.bits'
      · omega
      · injection e' with e'
        injection e' with e1 e2 _
        subst e1 e2
        have := h2 j hj
        rw [Nat.zero_add] at this
        exact this
    have bf : w3.frozen? ⟨bb, j, none⟩ = false := frozen_of_row w3 bb j _ _ H3.out.bit
    have g0 : (0 : Int) ≤ (j : Int) := by omega
    have g1 : (j : Int) < (bits.length : Int) := by omega
    have HS := Lib.hid ((H3.out.setBit j v hj).ext' (Below.drew (Ext.refl _)))
    have H4 := Lib.hid (show RunA w0 ((w3.setCell ⟨bb, j, none⟩ (.int .i64 v)).drew) B R (some ⟨b, off, none⟩) no co i bw n cw bb b2 (.slice ta u tc) u s2 (i + 1) by
      rw [HtB.out, if_pos rfl, Int.toNat_natCast]; exact HS.out)
    obtain ⟨nb, hnb⟩ : ∃ nb, bits.length = nb := ⟨_, rfl⟩
    rw [hnb] at m3 g1
    clear HS H3 Hbit hkb hj hnb
    go_upto_region 3 with fail
    go_region
    generalize (w3.setCell ⟨bb, j, none⟩ (.int .i64 v)).drew = W4 at *
    clear m3 bc bf g0 g1 d0 d4
    go_upto_region 4 with fail
    obtain ⟨tl, t1, t2, t3⟩ := H4.out.own
    have m4 := H4.out.c4
    have EA := ext_alloc W4 (.cells #[.int .i64 v] 3)
    have HA := Lib.hid (H4.out.ext' EA)
    have T2 := Lib.hid (t2.keep (w' := W4.alloc (.cells #[.int .i64 v] 3)) (fun g _ hg => EA.block g hg))
    have T1 := Lib.hid t1; have T3 := Lib.hid t3
    have hvn := new1 W4 (.int .i64 v) 3
    clear EA t1 t2 t3
    go_wp2_with (at_builtin; refine wpList_append_int _ rfl _ _ 25 rfl 3 i0 Tryz.underlying25 hi hz0 hz1 hz2 (.slice ta u tc) tl rfl T2.out ⟨W4.heap.size, 0, none⟩ 1 v rfl hvn (Lib.add_plain _ _ _) (by have := T1.out; have := Hu.out; omega) ?_; intro tv' w7 ho7 ha7; obtain ⟨g7, n7, cap7, rfl⟩ := ownI_some ho7; have Hap := Lib.hid (HA.out.apd T1.out T2.out T3.out ho7 ha7); clear ho7 ha7; have c7 := cell4 Hap.out.1; have f7 := frozen_of_row w7 R 4 _ _ Hap.out.1; have Hend := Lib.hid (Hap.out.2.at' (i + 1)); have m8 := Hap.out.2.c1; have f8 := Hap.out.2.f 1; clear Hap)
    go_end0
    exact ⟨⟨_, rfl⟩, _, Hend.out⟩
  · clear Hbit d4
    have H4 := Lib.hid (show RunA w0 w3 B R (some ⟨b, off, none⟩) no co i bw n cw bb b2 (.slice ta u tc) u s2 (i + 1) by
      rw [show b2 = bits by rw [HtB.out]; simp]; exact H3.out)
    clear H3
    go_upto_region 4 with fail
    obtain ⟨tl, t1, t2, t3⟩ := H4.out.own
    have m4 := H4.out.c4
    have EA := ext_alloc w3 (.cells #[.int .i64 v] 3)
    have HA := Lib.hid (H4.out.ext' EA)
    have T2 := Lib.hid (t2.keep (w' := w3.alloc (.cells #[.int .i64 v] 3)) (fun g _ hg => EA.block g hg))
    have T1 := Lib.hid t1; have T3 := Lib.hid t3
    have hvn := new1 w3 (.int .i64 v) 3
    clear EA t1 t2 t3
    go_wp2_with (at_builtin; refine wpList_append_int _ rfl _ _ 25 rfl 3 i0 Tryz.underlying25 hi hz0 hz1 hz2 (.slice ta u tc) tl rfl T2.out ⟨w3.heap.size, 0, none⟩ 1 v rfl hvn (Lib.add_plain _ _ _) (by have := T1.out; have := Hu.out; omega) ?_; intro tv' w7 ho7 ha7; obtain ⟨g7, n7, cap7, rfl⟩ := ownI_some ho7; have Hap := Lib.hid (HA.out.apd T1.out T2.out T3.out ho7 ha7); clear ho7 ha7; have c7 := cell4 Hap.out.1; have f7 := frozen_of_row w7 R 4 _ _ Hap.out.1; have Hend := Lib.hid (Hap.out.2.at' (i + 1)); have m8 := Hap.out.2.c1; have f8 := Hap.out.2.f 1; clear Hap)
    go_end0
    exact ⟨⟨_, rfl⟩, _, Hend.out⟩
end Go.Proofs.YtfjnlopbmkimiaaGreatDoor
namespace Go.Proofs.YtfjnlopbmkimiaaGreatDoor
open Go.RowKit

def stF (c : Gci) (x : Int) : Int × Int := if (chk c).1 ≠ 0 then chk c else if x < 0 ∨ ((2 ^ c.qubits.toNat : Nat) : Int) ≤ x then (18, 0) else (0, 0)

set_option maxRecDepth 100000 in
set_option maxHeartbeats 2000000 in
theorem scheck_any (c : Gci) (ao : Option Addr) (n cp : Nat) (x : Int) (w : World) (h : OpsAt w ao n c.ops) (hn : n ≤ cp) (hcp : cp ≤ 9223372036854775807) (hS : Shp w) :
    Calls Tryz.prog 50 #[.agg #[.int .i64 c.qubits, .int .i64 c.bits, .slice ao n cp], .int .i64 x] w fun e w' => e = .returned (.agg #[.int .i64 (stF c x).1, .int .i64 (stF c x).2]) ∧ Ext w w' := by
  obtain ⟨r, hr⟩ : ∃ r, stF c x = r := ⟨_, rfl⟩
  rw [hr]
  obtain ⟨r0, r1⟩ := r
  unfold stF at hr
  obtain ⟨qb, bi, ops⟩ := c
  obtain ⟨f, hf⟩ : ∃ f, chk ⟨qb, bi, ops⟩ = f := ⟨_, rfl⟩
  obtain ⟨f0, f1⟩ := f
  have hz0 : f0 = 0 → 1 ≤ qb ∧ qb ≤ 12 := by
    intro h0
    obtain ⟨_, h1, h2, _⟩ := chk_zero (c := ⟨qb, bi, ops⟩) (by rw [hf]; exact h0)
    exact ⟨by simpa using h1, by simpa using h2⟩
  rw [hf] at hr
  have Hz0 := Lib.hid hz0; have Hf := Lib.hid hf; have Hr := Lib.hid hr
  have E0 := (ext_al w (.cells #[.int .i64 qb, .int .i64 bi, .slice ao n cp] 24)).trans (ext_al _ (.cells #[.int .i64 0, .int .i64 0] 31))
  have bC : CiB ((w.alloc (.cells #[.int .i64 qb, .int .i64 bi, .slice ao n cp] 24)).alloc (.cells #[.int .i64 0, .int .i64 0] 31)) w.heap.size qb bi ao n cp := CiB.ext ⟨heap_alloc_new w _⟩ (ext_al _ _)
  have bF : FtB ((w.alloc (.cells #[.int .i64 qb, .int .i64 bi, .slice ao n cp] 24)).alloc (.cells #[.int .i64 0, .int .i64 0] 31)) (w.heap.size + 1) 0 0 := ⟨by
    have := heap_alloc_new (w.alloc (.cells #[.int .i64 qb, .int .i64 bi, .slice ao n cp] 24)) (.cells #[.int .i64 0, .int .i64 0] 31)
    simpa using this⟩
  have HE0 := Lib.hid E0; have HO := Lib.hid (h.ext E0); have HC := Lib.hid bC; have HFt := Lib.hid bF; have HS := Lib.hid (hS.ext E0)
  have m0 := bC.x0; have m1 := bC.x1; have m2 := bC.x2
  clear h E0 bC bF hr hf hz0 hS
  go_enter Tryz.func50, Tryz.ntmps50
  go_wp2_with fail
  generalize (w.alloc (.cells #[.int .i64 qb, .int .i64 bi, .slice ao n cp] 24)).alloc (.cells #[.int .i64 0, .int .i64 0] 31) = W0 at *
  have HK := Lib.hid (Check_any ⟨qb, bi, ops⟩ ao n cp W0 HO.out hn hcp HS.out)
  rw [Hf.out] at HK
  refine HK.out.mono ?_
  rintro e w1 ⟨rfl, hx1⟩
  have Ef := ext_al w1 (.cells #[.int .i64 f0, .int .i64 f1] 31)
  have bf1 : FtB (w1.alloc (.cells #[.int .i64 f0, .int .i64 f1] 31)) w1.heap.size f0 f1 := ⟨heap_alloc_new w1 _⟩
  have q0 := bf1.x0; have q1 := bf1.x1
  have HX1 := Lib.hid (hx1.trans Ef)
  have bz := HFt.out.ext HX1.out; have x0' := bz.x0; have x1' := bz.x1; have g0' := bz.f 0; have g1' := bz.f 1
  have bc := HC.out.ext HX1.out; have v0 := bc.x0
  have HEz := Lib.hid (HE0.out.trans HX1.out)
  clear bz bc m0 m1 m2 hx1 Ef bf1 HK Hf
  by_cases hc0 : f0 = 0
  · obtain ⟨hq1, hq2⟩ := Hz0.out hc0
    obtain ⟨qn, rfl⟩ : ∃ qn : Nat, qb = (qn : Int) := ⟨qb.toNat, by omega⟩
    have hs := shl1 (q := qn) (by omega)
    obtain ⟨t, ht⟩ : ∃ t : Nat, 2 ^ qn = t := ⟨_, rfl⟩
    rw [ht] at hs
    have hr1 := Hr.out
    rw [if_neg (by simp [hc0])] at hr1
    simp only [Int.toNat_natCast, ht] at hr1
    have Hr1 := Lib.hid hr1
    have hcb := nf' hc0
    have qz : (0 : Int) ≤ (qn : Int) := by omega
    clear hr1 Hr hc0 Hz0 hq1 hq2 ht
    by_cases hx0 : x < 0
    · have HF := Lib.hid (show r0 = 18 ∧ r1 = 0 by
        have := Hr1.out
        rw [if_pos (Or.inl hx0)] at this
        exact ⟨(congrArg Prod.fst this).symm, (congrArg Prod.snd this).symm⟩)
      clear Hr1
      go_wp2_with fail
      exact bodyPost_ret (v := .agg #[.int .i64 18, .int .i64 0]) (by simp [results, Tryz.results50, go_sem, x0', x1']) rfl ⟨by rw [HF.out.1, HF.out.2], put2x HEz.out (by omega) _ _⟩
    by_cases hx1 : (t : Int) ≤ x
    · have HF := Lib.hid (show r0 = 18 ∧ r1 = 0 by
        have := Hr1.out
        rw [if_pos (Or.inr hx1)] at this
        exact ⟨(congrArg Prod.fst this).symm, (congrArg Prod.snd this).symm⟩)
      clear Hr1
      go_wp2_with fail
      exact bodyPost_ret (v := .agg #[.int .i64 18, .int .i64 0]) (by simp [results, Tryz.results50, go_sem, x0', x1']) rfl ⟨by rw [HF.out.1, HF.out.2], put2x HEz.out (by omega) _ _⟩
    · have HF := Lib.hid (show r0 = 0 ∧ r1 = 0 by
        have := Hr1.out
        rw [if_neg (by omega)] at this
        exact ⟨(congrArg Prod.fst this).symm, (congrArg Prod.snd this).symm⟩)
      clear Hr1
      go_wp2_with fail
      exact bodyPost_ret (v := .agg #[.int .i64 0, .int .i64 0]) (by simp [results, Tryz.results50, go_sem, x0', x1']) rfl ⟨by rw [HF.out.1, HF.out.2], put2x HEz.out (by omega) _ _⟩
  · have hcb := nt hc0
    have HF := Lib.hid (show r0 = f0 ∧ r1 = f1 by
      have := Hr.out
      rw [if_pos hc0] at this
      exact ⟨(congrArg Prod.fst this).symm, (congrArg Prod.snd this).symm⟩)
    clear Hr hc0 Hz0
    go_wp2_with fail
    exact bodyPost_ret (v := .agg #[.int .i64 f0, .int .i64 f1]) (by simp [results, Tryz.results50, go_sem, x0', x1']) rfl ⟨by rw [HF.out.1, HF.out.2], put2x HEz.out (by omega) _ _⟩
end Go.Proofs.YtfjnlopbmkimiaaGreatDoor
namespace Go.Proofs.YtfjnlopbmkimiaaGreatDoor
open Go.RowKit

set_option maxRecDepth 100000 in
set_option maxHeartbeats 2000000 in
theorem basis_wave (q x : Nat) (w : World) (hq : q ≤ 12) (hx : x < 2 ^ q) (P E : Nat) (hP : 1 ≤ P) :
    Calls Tryz.prog 81 #[.int .i64 (q : Int), .int .i64 (x : Int)] w fun e w' => ∃ b, e = .returned (.slice (some ⟨b, 0, none⟩) (2 ^ q) (2 ^ q)) ∧ WvAt w' b (2 ^ q) (bas x) P E ∧ w.heap.size ≤ b ∧ Ext w w' := by
  obtain ⟨n, hn⟩ : ∃ n, 2 ^ q = n := ⟨_, rfl⟩
  have hn2 : n ≤ 4096 := by rw [← hn]; exact Nat.le_trans (Nat.pow_le_pow_right (by decide) hq) (by decide)
  have hs := shl1 (q := q) (by omega)
  rw [hn] at hs hx ⊢
  have q0 : (0 : Int) ≤ (q : Int) := by omega
  have q1 : (0 : Int) ≤ (x : Int) := by omega
  have q2 : (x : Int) < (n : Int) := by omega
  have HP := Lib.hid hP; have Hx := Lib.hid hx
  clear hn hq hP hx
  go_enter Tryz.func81, Tryz.ntmps81
  go_wp2_with (refine wpList_make_W w rfl _ _ rfl .i64 .i64 (wrap64 (2 ^ min q 64)) (wrap64 (2 ^ min q 64)) n rfl rfl hs hs (by omega) ?_; intro w1 hR hE hl)
  refine (RRoot_nm 0 w1).mono ?_
  rintro e w2 ⟨c1, rfl, hI, hE2⟩
  go_wp2_with fail
  refine (kept_any c1 _ P E w2 (hI.le HP.out (Nat.zero_le _))).mono ?_
  rintro e w3 ⟨p, rfl, hp, hE3⟩
  have hR3 := ((hR P E).ext hE2).ext hE3
  obtain ⟨p0, y0, fz, _⟩ := hR3.get Hx.out
  obtain ⟨hS1, _⟩ := hR3.set Hx.out hp
  have e0 : nTr 0 nOne = nOne := by unfold nTr nOne; congr 1; funext k; unfold trR; simp
  have Hend := Lib.hid (show WvAt (w3.setCell ⟨w.heap.size, x, none⟩ (.pointer p)) w.heap.size n (bas x) P E ∧ w.heap.size ≤ w.heap.size ∧ Ext w (w3.setCell ⟨w.heap.size, x, none⟩ (.pointer p)) from ⟨by
      obtain ⟨cs, g1, g2, g3⟩ := hS1.row
      refine ⟨cs, g1, g2, fun y hy => ?_⟩
      have := g3 y hy
      unfold bas
      rw [e0] at this
      exact this, Nat.le_refl _, Ext.put ((hE.trans hE2).trans hE3) (Nat.le_refl _) _⟩)
  clear hS1 hR3 hR hE hE2 hE3 hp hI
  go_wp2_with fail
  go_ret
  exact ⟨_, rfl, Hend.out⟩
end Go.Proofs.YtfjnlopbmkimiaaGreatDoor
