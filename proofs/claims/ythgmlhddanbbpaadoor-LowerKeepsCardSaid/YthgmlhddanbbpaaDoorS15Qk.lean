/-
  The builder in memory: its spare qubit, its operations that grow. Gates as the program makes them: flip, join, around, undone; copies of lists. slices.Grow of nothing, slices.Concat of two lists of ints, slices.Clone of one. Gates around something: around, undone, between. Gates around something: between.
-/
import Derived.Test.YthgmlhddanbbpaaDoorProg
import Derived.Test.YthgmlhddanbbpaaDoorRows
import Derived.BigQuiet
import Derived.Deep.AppendLies
import Derived.Deep.Cut
import Derived.Deep.CutRange
import Derived.Deep.LoopGhost
import Derived.Deep.QuietTactic
import Derived.Deep.RegionHeld3
import Derived.Defers
import Derived.Ground.Names2Prog
import Derived.Laws.AppendOwnNone
import Derived.Laws.Bits64b
import Derived.Laws.Concat
import Derived.Laws.CopyOwn
import Derived.Laws.IdiomStrings
import Derived.Laws.ResultCell
import Derived.Lib.AppendStr
import Derived.Lib.AppendZeros
import Derived.Lib.AppendZerosOnto
import Derived.Lib.BitFns
import Derived.Lib.Hide
import Derived.Lib.ItoaMem
import Derived.Lib.ItoaNum
import Derived.Lib.Strings
import Derived.Lib.TrailingZeros
import Derived.Maps.AppendAt
import Derived.OrdersIn
import Derived.OwnWalk
import Derived.RangeFuncCalls
import Derived.RangeFuncFrom
import Derived.Recover
import Derived.Shelf.Slices.Clone
import Derived.Shelf.Slices.Turned
import Derived.Shelf.Spec.TrailingZeros
import Derived.WalkKit
import Derived.WalkLawsBesides
import Derived.WalkSpells
import Derived.Test.YthgmlhddanbbpaaDoorS00Mem
import Derived.Test.YthgmlhddanbbpaaDoorShelf
import Derived.Test.YthgmlhddanbbpaaDoorS02ZCq
import Derived.Test.YthgmlhddanbbpaaDoorS03Uaq
import Derived.Test.YthgmlhddanbbpaaDoorS06Xlq
import Derived.Test.YthgmlhddanbbpaaDoorS07Cn
import Derived.Test.YthgmlhddanbbpaaDoorS08Di
import Derived.Test.YthgmlhddanbbpaaDoorS09Ka
import Derived.Test.YthgmlhddanbbpaaDoorS10Kl
import Derived.Test.YthgmlhddanbbpaaDoorS11Qb
import Derived.Test.YthgmlhddanbbpaaDoorS13Yrq
import Derived.Test.YthgmlhddanbbpaaDoorS14Qf
namespace Go.Proofs.YthgmlhddanbbpaaDoor
open Go.RowKit

/-- Operations, cell by cell, in a list of cells. -/
def RowL (w : World) (xs : List Value) (ops : List Gop) : Prop :=
  ∀ t g, ops[t]? = some g → ∃ (a1 : Option Addr) (n1 c1 : Nat) (a2 : Option Addr) (n2 c2 : Nat),
    xs[t * 6]? = some (.int .i64 g.kind) ∧ xs[t * 6 + 1]? = some (.int .i64 g.k) ∧ xs[t * 6 + 2]? = some (.slice a1 n1 c1) ∧ xs[t * 6 + 3]? = some (.int .i64 g.q) ∧ xs[t * 6 + 4]? = some (.int .i64 g.bit) ∧ xs[t * 6 + 5]? = some (.slice a2 n2 c2) ∧ OpO w g a1 n1 c1 a2 n2 c2
section
variable {w w' : World} {xs ys : List Value} {A B : List Gop}
theorem RowL.map (h : RowL w xs A) (hk : ∀ g a1 n1 c1 a2 n2 c2, OpO w g a1 n1 c1 a2 n2 c2 → OpO w' g a1 n1 c1 a2 n2 c2) : RowL w' xs A := fun t g hg => by
  obtain ⟨a1, n1, c1, a2, n2, c2, e0, e1, e2, e3, e4, e5, e6⟩ := h t g hg
  exact ⟨a1, n1, c1, a2, n2, c2, e0, e1, e2, e3, e4, e5, hk _ _ _ _ _ _ _ e6⟩
theorem RowL.append (h : RowL w xs A) (k : RowL w ys B) (hx : xs.length = A.length * 6) : RowL w (xs ++ ys) (A ++ B) := fun t g hg => by
  by_cases ht : t < A.length
  · rw [List.getElem?_append_left ht] at hg
    obtain ⟨a1, n1, c1, a2, n2, c2, e0, e1, e2, e3, e4, e5, e6⟩ := h t g hg
    have hr : ∀ j, j < 6 → (xs ++ ys)[t * 6 + j]? = xs[t * 6 + j]? := fun j hj => List.getElem?_append_left (by omega)
    exact ⟨a1, n1, c1, a2, n2, c2, (hr 0 (by omega)).trans e0, (hr 1 (by omega)).trans e1, (hr 2 (by omega)).trans e2, (hr 3 (by omega)).trans e3, (hr 4 (by omega)).trans e4, (hr 5 (by omega)).trans e5, e6⟩
  · rw [List.getElem?_append_right (by omega)] at hg
    obtain ⟨a1, n1, c1, a2, n2, c2, e0, e1, e2, e3, e4, e5, e6⟩ := k _ g hg
    have hr : ∀ j, (xs ++ ys)[t * 6 + j]? = ys[(t - A.length) * 6 + j]? := fun j => by
      rw [List.getElem?_append_right (by omega), hx]
      congr 1
      have h1 : (t - A.length) * 6 + A.length * 6 = t * 6 := by rw [← Nat.add_mul]; congr 1; omega
      omega
    exact ⟨a1, n1, c1, a2, n2, c2, (hr 0).trans e0, (hr 1).trans e1, (hr 2).trans e2, (hr 3).trans e3, (hr 4).trans e4, (hr 5).trans e5, e6⟩
theorem RowL.one {g : Gop} {a1 : Option Addr} {n1 c1 : Nat} {a2 : Option Addr} {n2 c2 : Nat} (h : OpO w g a1 n1 c1 a2 n2 c2) : RowL w [.int .i64 g.kind, .int .i64 g.k, .slice a1 n1 c1, .int .i64 g.q, .int .i64 g.bit, .slice a2 n2 c2] [g] := fun t x hx => by
  have ht : t = 0 := by have := (List.getElem?_eq_some_iff.1 hx).1; simpa using this
  subst ht
  have : g = x := by simpa using hx
  subst this
  exact ⟨a1, n1, c1, a2, n2, c2, rfl, rfl, rfl, rfl, rfl, rfl, h⟩
theorem RowL.nil : RowL w [] [] := fun t g h => by simp at h
end
theorem OpsO.rows {w : World} {base : Nat} {v : Value} {ops : List Gop} (h : OpsO w base v ops) : ∃ xs, w.ownsRow base 51 6 v ops.length xs ∧ RowL w xs ops := h
/-- The cells that a slice of operations has, to be appended. -/
theorem OpsO.src {w : World} {base n c : Nat} {a : Option Addr} {ops : List Gop} (h : OpsO w base (.slice a n c) ops) : ops.length = n ∧ (a = none → n = 0 ∧ c = 0) ∧ ∃ ys : List Value, ys.length = n * 6 ∧ (∀ ad, a = some ad → ∀ j u, ys[j]? = some u → w.cell? (ad.add j) = some u) ∧ (∀ u ∈ ys, u.oneCell' = true) ∧ RowL w ys ops := by
  have h0 := h
  obtain ⟨a', c', e, _, _, hat⟩ := h0.at
  injection e with e1 e2 e3
  subst e1; subst e2; subst e3
  obtain ⟨xs, h1, h2⟩ := h
  refine ⟨rfl, ?_, ?_⟩
  · rintro rfl
    rcases h1.2 with ⟨e, _⟩ | ⟨g, cap, cur, e, _⟩
    · injection e with _ e2 e3
      exact ⟨e2, e3⟩
    · injection e with e1 _ _
      cases e1
  · obtain ⟨ys, k1, k2, k3, k4⟩ := srcCells hat
    refine ⟨ys, k1, k2, k3, fun t g hg => ?_⟩
    obtain ⟨a1, n1, c1, a2, n2, c2, e0, e1, e2, e3, e4, e5, _⟩ := k4 t g hg
    obtain ⟨b1, m1, d1, b2, m2, d2, f0, f1, f2, f3, f4, f5, f6⟩ := h2 t g hg
    have hlt := (List.getElem?_eq_some_iff.1 hg).1
    -- the same cells
    have hsame : ∀ j, j < ops.length * 6 → xs[j]? = ys[j]? := by
      intro j hj
      rcases h1.2 with ⟨_, e⟩ | ⟨g', cap, cur, e, hb, hg', hn, hcm, _, htk⟩
      · omega
      · injection e with e1 _ _
        subst e1
        have hy : j < ys.length := by rw [k1]; exact hj
        have := k2 _ rfl j ys[j] (List.getElem?_eq_getElem hy)
        rw [Addr.add_lit, cell_of_row w g' (0 + j) cur _ (0, 0) hg', Nat.zero_add] at this
        rw [List.getElem?_eq_getElem hy, ← this, ← Array.getElem?_toList, ← htk, List.getElem?_take, if_pos hj]
    have h2' := hsame (t * 6 + 2) (by omega)
    have h5' := hsame (t * 6 + 5) (by omega)
    rw [f2, e2] at h2'
    rw [f5, e5] at h5'
    injection h2' with h2'; injection h2' with p1 p2 p3
    injection h5' with h5'; injection h5' with q1 q2 q3
    subst p1; subst p2; subst p3; subst q1; subst q2; subst q3
    exact ⟨_, _, _, _, _, _, e0, e1, e2, e3, e4, e5, f6⟩

/-- What changes while a builder works: its own block, and the row that it appends to. -/
structure Mv (Bd : Nat) (v v' : Value) (w w' : World) : Prop where
  size : w.heap.size ≤ w'.heap.size
  block : ∀ k, k < w.heap.size → k ≠ Bd → v.ownBlock ≠ some k → w'.heap[k]? = w.heap[k]?
  own : ∀ k, v'.ownBlock = some k → v.ownBlock = some k ∨ w.heap.size ≤ k
theorem Mv.of_ext {Bd : Nat} {v : Value} {w w' : World} (h : Ext w w') : Mv Bd v v w w' := ⟨h.size, fun k hk _ _ => h.block k hk, fun _ e => Or.inl e⟩
theorem Mv.trans {Bd : Nat} {v v' v'' : Value} {w w' w'' : World} (h : Mv Bd v v' w w') (k : Mv Bd v' v'' w' w'') : Mv Bd v v'' w w'' :=
  ⟨Nat.le_trans h.size k.size, fun b hb h1 h2 => (k.block b (Nat.lt_of_lt_of_le hb h.size) h1 (fun e => by
    rcases h.own b e with e | e
    · exact h2 e
    · omega)).trans (h.block b hb h1 h2), fun b e => by
    rcases k.own b e with e | e
    · exact h.own b e
    · exact Or.inr (Nat.le_trans h.size e)⟩

/-- A builder: block Bd, its spare qubit, its operations. -/
structure BdA (w0 w : World) (Bd : Nat) (sp : Int) (v : Value) (ops : List Gop) : Prop where
  ext : Ext w0 w
  hB : w0.heap.size ≤ Bd
  row : w.heap[Bd]? = some (.cells #[.int .i64 sp, v] 49 (0, 0))
  ops : OpsO w w0.heap.size v ops
section
variable {w0 w w' : World} {Bd : Nat} {sp : Int} {v v' : Value} {ops : List Gop}
theorem BdA.lt (h : BdA w0 w Bd sp v ops) : Bd < w.heap.size := (Array.getElem?_eq_some_iff.1 h.row).1
theorem BdA.x0 (h : BdA w0 w Bd sp v ops) : w.cell? ⟨Bd, 0, none⟩ = some (.int .i64 sp) := by rw [cell_of_row w Bd 0 _ _ (0, 0) h.row]; rfl
theorem BdA.x1 (h : BdA w0 w Bd sp v ops) : w.cell? ⟨Bd, 1, none⟩ = some v := by rw [cell_of_row w Bd 1 _ _ (0, 0) h.row]; rfl
theorem BdA.f (h : BdA w0 w Bd sp v ops) (o : Nat) : w.frozen? ⟨Bd, o, none⟩ = false := frozen_of_row w Bd o _ _ h.row
theorem BdA.ext' (h : BdA w0 w Bd sp v ops) (k : Ext w w') : BdA w0 w' Bd sp v ops := ⟨h.ext.trans k, h.hB, (k.block _ h.lt).trans h.row, h.ops.ext k⟩
theorem BdA.kind (h : BdA w0 w Bd sp v ops) : ∀ k, v.ownBlock = some k → w0.heap.size ≤ k ∧ ∃ cs fr, w.heap[k]? = some (.cells cs 51 fr) := by
  obtain ⟨xs, h1, _⟩ := h.ops
  exact PtKind h1
theorem BdA.sl (h : BdA w0 w Bd sp v ops) : ∃ a c, v = .slice a ops.length c := by
  obtain ⟨a, c, e, _⟩ := h.ops.at
  exact ⟨a, c, e⟩
/-- Blocks of ints stay. -/
theorem BdA.ints (h : BdA w0 w Bd sp v ops) (m : Mv Bd v v' w w') : ∀ (b : Nat) (cur : Array Value) (fr : Nat × Nat), w.heap[b]? = some (.cells cur 3 fr) → w'.heap[b]? = w.heap[b]? := by
  intro b cur fr hb
  refine m.block b (Array.getElem?_eq_some_iff.1 hb).1 ?_ ?_
  · rintro rfl
    rw [h.row] at hb
    injection hb with hb
    injection hb with _ hb _
    exact absurd hb (by decide)
  · intro e
    obtain ⟨_, cs, fr', hr⟩ := h.kind b e
    rw [hb] at hr
    injection hr with hr
    injection hr with _ hr _
    exact absurd hr (by decide)
/-- Operations that lie elsewhere stay. -/
theorem OpsO.mv {base : Nat} {z : Value} {gs : List Gop} (h : OpsO w base z gs) (b : BdA w0 w Bd sp v ops) (m : Mv Bd v v' w w') (hne : ∀ k, z.ownBlock = some k → v.ownBlock ≠ some k) : OpsO w' base z gs := by
  have hk := b.ints m
  obtain ⟨xs, h1, h2⟩ := h
  refine ⟨xs, ?_, fun t g hg => ?_⟩
  · have hz := PtKind h1
    refine ⟨h1.1, ?_⟩
    rcases h1.2 with h1 | ⟨g, cap, cur, hv, hb, hg, rest⟩
    · exact Or.inl h1
    · refine Or.inr ⟨g, cap, cur, hv, hb, ?_, rest⟩
      refine (m.block g (Array.getElem?_eq_some_iff.1 hg).1 ?_ (hne g (by rw [hv]; rfl))).trans hg
      rintro rfl
      rw [b.row] at hg
      injection hg with hg
      injection hg with _ hg _
      exact absurd hg (by decide)
  · obtain ⟨a1, n1, c1, a2, n2, c2, e0, e1, e2, e3, e4, e5, e6⟩ := h2 t g hg
    exact ⟨a1, n1, c1, a2, n2, c2, e0, e1, e2, e3, e4, e5, e6.keep m.size hk⟩
end
theorem infoOp : ∃ i0, Tryd.prog.info? 51 = some i0 ∧ i0.zero = some (.agg #[.int .i64 0, .int .i64 0, .slice none 0 0, .int .i64 0, .int .i64 0, .slice none 0 0]) ∧ i0.size = 6 ∧ i0.bytes = 80 := by
  obtain ⟨i0, hi, hz0, hz1, hz2⟩ := info_parts op_info
  exact ⟨i0, hi, hz0, hz1, hz2⟩

set_option maxRecDepth 100000 in
/-- Operations are appended. -/
theorem bd_append {w0 w : World} {Bd : Nat} {sp : Int} {v : Value} {ops : List Gop} (h : BdA w0 w Bd sp v ops) (ty : TypeId) {a : Option Addr} {n c : Nat} {gs : List Gop} (hgl : gs.length = n) (hnone : a = none → n = 0 ∧ c = 0) (ys : List Value) (k1 : ys.length = n * 6) (k2 : ∀ ad, a = some ad → ∀ j u, ys[j]? = some u → w.cell? (ad.add j) = some u) (k3 : ∀ u ∈ ys, u.oneCell' = true) (k4 : RowL w ys gs) (hm : ops.length + n ≤ 1000000) :
    ∃ a' c' w1, (Builtin.append_ #[22, 22] ty #[v, .slice a n c]).run Tryd.prog w = .ok (.slice a' (ops.length + n) c') w1 ∧ w1.heap[Bd]? = w.heap[Bd]? ∧ Mv Bd v (.slice a' (ops.length + n) c') w w1 ∧
      BdA w0 (w1.setCell ⟨Bd, 1, none⟩ (.slice a' (ops.length + n) c')) Bd sp (.slice a' (ops.length + n) c') (ops ++ gs) ∧ Mv Bd v (.slice a' (ops.length + n) c') w (w1.setCell ⟨Bd, 1, none⟩ (.slice a' (ops.length + n) c')) := by
  obtain ⟨i0, hi, hz0, hz1, hz2⟩ := infoOp
  obtain ⟨xs, h1, h2⟩ := h.ops
  have hkd := h.kind
  have key : ∃ v' w1, (Builtin.append_ #[22, 22] ty #[v, .slice a n c]).run Tryd.prog w = .ok v' w1 ∧ w1.ownsRow w0.heap.size 51 6 v' (ops.length + n) (xs ++ ys) ∧ w.grownBy w1 v.ownBlock ∧ (v'.ownBlock = v.ownBlock ∨ v'.ownBlock = some w.heap.size) := by
    cases a with
    | none =>
      obtain ⟨rfl, rfl⟩ := hnone rfl
      have hy : ys = [] := List.length_eq_zero_iff.1 (by rw [k1])
      subst hy
      exact ⟨v, w, run_append_owned_none w w0.heap.size _ ty 51 i0 6 Tryd.underlying22 hi v ops.length xs h1, by rw [Nat.add_zero, List.append_nil]; exact h1, ⟨rfl, rfl, rfl, Nat.le_refl _, fun _ _ _ => rfl⟩, Or.inl rfl⟩
    | some ad =>
      obtain ⟨v', w1, e1, e2, e3, _, e5⟩ := run_append_own_at (P := Tryd.prog) w w0.heap.size 22 ty 51 i0 _ 6 80 Tryd.underlying22 hi hz0 hz1 hz2 rfl (by decide) v ops.length xs h1 ad n c ys k1 (k2 ad rfl) k3 (by unfold maxLen; omega) (by omega) h.ext.size
      exact ⟨v', w1, e1, e2, e3, e5⟩
  obtain ⟨v', w1, e1, e2, e3, e4⟩ := key
  obtain ⟨a', c', hv'⟩ : ∃ a' c', v' = .slice a' (ops.length + n) c' := by
    rcases e2.2 with ⟨rfl, h0⟩ | ⟨g, cap, cur, rfl, _⟩
    · exact ⟨none, 0, by rw [h0]⟩
    · exact ⟨_, _, rfl⟩
  subst hv'
  have hbk : w1.heap[Bd]? = w.heap[Bd]? := e3.block Bd h.lt (fun e => by
    obtain ⟨_, cs, fr, hr⟩ := hkd Bd e.symm
    rw [h.row] at hr
    injection hr with hr
    injection hr with _ hr _
    exact absurd hr (by decide))
  have m1 : Mv Bd v (.slice a' (ops.length + n) c') w w1 := ⟨e3.size, fun k hk _ h2 => e3.block k hk (fun e => h2 e.symm), fun k hk => by
    rcases e4 with e | e
    · exact Or.inl (by rw [← e]; exact hk)
    · rw [e] at hk
      injection hk with hk
      exact Or.inr (by omega)⟩
  have hO := only1 w1 Bd 1 (.slice a' (ops.length + n) c')
  have m2 : Mv Bd v (.slice a' (ops.length + n) c') w (w1.setCell ⟨Bd, 1, none⟩ (.slice a' (ops.length + n) c')) := ⟨by rw [hO.size]; exact m1.size, fun k hk h1 h2 => (hO.block k h1).trans (m1.block k hk h1 h2), m1.own⟩
  have hrow1 : w1.heap[Bd]? = some (.cells #[.int .i64 sp, v] 49 (0, 0)) := hbk.trans h.row
  have hint := h.ints m2
  refine ⟨a', c', w1, e1, hbk, m1, ⟨?_, h.hB, ?_, ?_⟩, m2⟩
  · have hx1 : Ext w0 w1 := grown_ext h.ext e3 (fun k hk => (hkd k hk).1)
    exact ext_only hx1 hO h.hB
  · have := heap_setCell_same w1 Bd 1 _ _ (.slice a' (ops.length + n) c') hrow1
    exact this
  · have hrl : RowL (w1.setCell ⟨Bd, 1, none⟩ (.slice a' (ops.length + n) c')) (xs ++ ys) (ops ++ gs) := by
      refine RowL.append (RowL.map h2 ?_) (RowL.map k4 ?_) (by have := h1.1; simpa using this)
      · intro g a1 n1 c1 a2 n2 c2 ho; exact ho.keep m2.size hint
      · intro g a1 n1 c1 a2 n2 c2 ho; exact ho.keep m2.size hint
    have hl : (ops ++ gs).length = ops.length + n := by rw [List.length_append, hgl]
    refine ⟨xs ++ ys, ?_, hrl⟩
    rw [hl]
    refine own_keep e2 (fun g cur hg hgc => hO.block g ?_)
    rintro rfl
    rw [hrow1] at hgc
    injection hgc with hgc
    injection hgc with _ hgc _
    exact absurd hgc (by decide)
end Go.Proofs.YthgmlhddanbbpaaDoor
namespace Go.Proofs.YthgmlhddanbbpaaDoor
open Go.RowKit

theorem opO_plain (w : World) {g : Gop} (h1 : g.ctl = []) (h2 : g.cnd = []) : OpO w g none 0 0 none 0 0 :=
  ⟨⟨⟨by rw [h1]; rfl, Or.inl rfl⟩, Nat.le_refl _, by decide, ⟨by rw [h2]; rfl, Or.inl rfl⟩, Nat.le_refl _, by decide⟩, (fun _ e => by cases e), (fun _ e => by cases e)⟩
abbrev Gx := Gop × (Option Addr × Nat × Nat) × (Option Addr × Nat × Nat)
def gv (x : Gx) : List Value := [.int .i64 x.1.kind, .int .i64 x.1.k, .slice x.2.1.1 x.2.1.2.1 x.2.1.2.2, .int .i64 x.1.q, .int .i64 x.1.bit, .slice x.2.2.1 x.2.2.2.1 x.2.2.2.2]
def GxO (w : World) (x : Gx) : Prop := OpO w x.1 x.2.1.1 x.2.1.2.1 x.2.1.2.2 x.2.2.1 x.2.2.2.1 x.2.2.2.2
theorem rowL_lit {w : World} : ∀ (L : List Gx), (∀ x ∈ L, GxO w x) → RowL w (L.flatMap gv) (L.map (·.1))
  | [], _ => RowL.nil
  | x :: r, h => by
    rw [List.flatMap_cons, List.map_cons]
    exact RowL.append (A := [x.1]) (RowL.one (h x (by simp))) (rowL_lit r (fun y hy => h y (by simp [hy]))) rfl
theorem gv_len : ∀ (L : List Gx), (L.flatMap gv).length = L.length * 6
  | [] => rfl
  | x :: r => by
    rw [List.flatMap_cons, List.length_append, gv_len r, List.length_cons]
    show 6 + r.length * 6 = _
    omega
theorem opsO_lit {w : World} {b base n : Nat} (L : List Gx) (hn : L.length = n) (h : w.heap[b]? = some (.cells (L.flatMap gv).toArray 51 (0, 0))) (hb : base ≤ b) (hm : n ≤ 1000) (hok : ∀ x ∈ L, GxO w x) : OpsO w base (.slice (some ⟨b, 0, none⟩) n n) (L.map (·.1)) := by
  refine ⟨L.flatMap gv, ?_, rowL_lit L hok⟩
  have hl : (L.map (·.1)).length = n := by rw [List.length_map, hn]
  rw [hl]
  refine ⟨by rw [gv_len, hn], Or.inr ⟨b, n, _, rfl, hb, h, Nat.le_refl _, by unfold maxLen; omega, ?_, ?_⟩⟩
  · simp only [List.size_toArray]
    rw [gv_len, hn]
  · simp only []
    exact List.take_of_length_le (by rw [gv_len, hn]; exact Nat.le_refl _)

theorem flip_any (q c : Int) (w : World) : Calls Tryd.prog 67 #[.int .i64 q, .int .i64 c] w fun e w' => ∃ b, e = .returned (.agg #[.int .i64 2, .int .i64 0, .slice (some ⟨b, 0, none⟩) 1 1, .int .i64 q, .int .i64 0, .slice none 0 0]) ∧ OpO w' (lFlip q c) (some ⟨b, 0, none⟩) 1 1 none 0 0 ∧ Ext w w' := by
  obtain ⟨H, hH⟩ : ∃ H, w.heap.size = H := ⟨_, rfl⟩
  have HH := Lib.hid hH
  obtain ⟨U, hU⟩ : ∃ U, w.alloc (.cells #[.int .i64 0, .int .i64 0, .slice none 0 0, .int .i64 0, .int .i64 0, .slice none 0 0] 51) = U := ⟨_, rfl⟩
  have HU := Lib.hid hU
  have HE := Lib.hid (show Ext w U by rw [← hU]; exact ext_al w _)
  have HB := Lib.hid (show OpBx U H 0 0 none 0 0 0 0 none 0 0 by rw [← hU, ← hH]; exact opbx_new w 0 0 none 0 0 0 0 none 0 0)
  have hs : U.heap.size = H + 1 := by rw [← hU, World.size_alloc, hH]
  have HS := Lib.hid hs
  have EV := ext_al U (.cells #[.int .i64 c] 3)
  have hrow := heap_alloc_new U (.cells #[.int .i64 c] 3)
  have bx := HB.out.ext EV
  have x0 := bx.x0; have x1 := bx.x1; have x2 := bx.x2; have x3 := bx.x3; have x4 := bx.x4; have x5 := bx.x5
  have f0 := bx.f 0; have f1 := bx.f 1; have f2 := bx.f 2; have f3 := bx.f 3; have f4 := bx.f 4; have f5 := bx.f 5
  have HV := Lib.hid EV; have Hrow := Lib.hid hrow; have HwH := Lib.hid (show w.heap.size ≤ H by omega)
  have hne : H ≠ U.heap.size := by omega
  have hne' : U.heap.size ≠ H := by omega
  clear hH hU hs EV hrow bx
  go_enter Tryd.func67, Tryd.ntmps67
  go_upto_region 1 with fail
  rw [HU.out, HH.out]
  go_wp2_with fail
  refine bodyPost_ret (v := .agg #[.int .i64 2, .int .i64 0, .slice (some ⟨U.heap.size, 0, none⟩) 1 1, .int .i64 q, .int .i64 0, .slice none 0 0]) (by simp [results, Tryd.results67, go_sem, x0, x1, x2, x3, x4, x5]) rfl ⟨U.heap.size, rfl, ?_, ?_⟩
  · have hr9 : ∀ {W : World}, Only H (U.alloc (.cells #[.int .i64 c] 3)) W → OpO W (lFlip q c) (some ⟨U.heap.size, 0, none⟩) 1 1 none 0 0 := by
      intro W hO
      have hr := (hO.block U.heap.size hne').trans Hrow.out
      refine ⟨⟨⟨rfl, Or.inr ⟨U.heap.size, 0, rfl, (Array.getElem?_eq_some_iff.1 hr).1, fun t ht => ?_⟩⟩, Nat.le_refl _, by decide, ⟨rfl, Or.inl rfl⟩, Nat.le_refl _, by decide⟩, fun ad e => ?_, fun _ e => by cases e⟩
      · have : t = 0 := by omega
        subst this
        rw [cell_of_row W _ (0 + 0) _ _ (0, 0) hr]
        rfl
      · cases e
        exact ⟨_, _, hr⟩
    exact hr9 ((((((((Only.refl _ _).setCell _ _).setCell _ _).setCell _ _).setCell _ _).setCell _ _).setCell _ _))
  · exact ext_only (HE.out.trans HV.out) ((((((((Only.refl _ _).setCell _ _).setCell _ _).setCell _ _).setCell _ _).setCell _ _).setCell _ _)) HwH.out

theorem turn2_any (q : Int) (w : World) : Calls Tryd.prog 53 #[.int .i64 q, .int .i64 2] w fun e w' => e = .returned (.agg #[.int .i64 4, .int .i64 2, .slice none 0 0, .int .i64 q, .int .i64 0, .slice none 0 0]) ∧ Ext w w' := turn_any q 2 w (by decide)
theorem turn4_any (q : Int) (w : World) : Calls Tryd.prog 53 #[.int .i64 q, .int .i64 4] w fun e w' => e = .returned (.agg #[.int .i64 4, .int .i64 4, .slice none 0 0, .int .i64 q, .int .i64 0, .slice none 0 0]) ∧ Ext w w' := turn_any q 4 w (by decide)
theorem turn14_any (q : Int) (w : World) : Calls Tryd.prog 53 #[.int .i64 q, .int .i64 14] w fun e w' => e = .returned (.agg #[.int .i64 4, .int .i64 14, .slice none 0 0, .int .i64 q, .int .i64 0, .slice none 0 0]) ∧ Ext w w' := turn_any q 14 w (by decide)

set_option maxRecDepth 100000 in
set_option maxHeartbeats 2000000 in
theorem join_any (p q s : Int) (w : World) : Calls Tryd.prog 54 #[.int .i64 p, .int .i64 q, .int .i64 s] w fun e w' => ∃ b, e = .returned (.slice (some ⟨b, 0, none⟩) 9 9) ∧ OpsO w' w.heap.size (.slice (some ⟨b, 0, none⟩) 9 9) (lJoin p q s) ∧ w.heap.size ≤ b ∧ Ext w w' := by
  go_enter Tryd.func54, Tryd.ntmps54
  go_wp2_with fail
  refine (fork_any s w).mono ?_
  rintro e w1 ⟨rfl, hx1⟩
  have HE1 := Lib.hid (show Ext w w1 from hx1)
  clear hx1
  go_wp2_with fail
  refine (turn2_any s w1).mono ?_
  rintro e w2 ⟨rfl, hx2⟩
  have HE2 := Lib.hid (show Ext w w2 from HE1.out.trans hx2)
  clear hx2
  go_wp2_with fail
  refine (flip_any s q w2).mono ?_
  rintro e w3 ⟨b3, rfl, hO3, hx3⟩
  have HE3 := Lib.hid (show Ext w w3 from HE2.out.trans hx3)
  have H3 := Lib.hid hO3
  clear hO3
  clear hx3
  go_wp2_with fail
  refine (turn14_any s w3).mono ?_
  rintro e w4 ⟨rfl, hx4⟩
  have HE4 := Lib.hid (show Ext w w4 from HE3.out.trans hx4)
  replace H3 := Lib.hid (H3.out.ext hx4)
  clear hx4
  go_wp2_with fail
  refine (flip_any s p w4).mono ?_
  rintro e w5 ⟨b5, rfl, hO5, hx5⟩
  have HE5 := Lib.hid (show Ext w w5 from HE4.out.trans hx5)
  replace H3 := Lib.hid (H3.out.ext hx5)
  have H5 := Lib.hid hO5
  clear hO5
  clear hx5
  go_wp2_with fail
  refine (turn2_any s w5).mono ?_
  rintro e w6 ⟨rfl, hx6⟩
  have HE6 := Lib.hid (show Ext w w6 from HE5.out.trans hx6)
  replace H3 := Lib.hid (H3.out.ext hx6)
  replace H5 := Lib.hid (H5.out.ext hx6)
  clear hx6
  go_wp2_with fail
  refine (flip_any s q w6).mono ?_
  rintro e w7 ⟨b7, rfl, hO7, hx7⟩
  have HE7 := Lib.hid (show Ext w w7 from HE6.out.trans hx7)
  replace H3 := Lib.hid (H3.out.ext hx7)
  replace H5 := Lib.hid (H5.out.ext hx7)
  have H7 := Lib.hid hO7
  clear hO7
  clear hx7
  go_wp2_with fail
  refine (turn14_any s w7).mono ?_
  rintro e w8 ⟨rfl, hx8⟩
  have HE8 := Lib.hid (show Ext w w8 from HE7.out.trans hx8)
  replace H3 := Lib.hid (H3.out.ext hx8)
  replace H5 := Lib.hid (H5.out.ext hx8)
  replace H7 := Lib.hid (H7.out.ext hx8)
  clear hx8
  go_wp2_with fail
  refine (fork_any s w8).mono ?_
  rintro e w9 ⟨rfl, hx9⟩
  have HE9 := Lib.hid (show Ext w w9 from HE8.out.trans hx9)
  replace H3 := Lib.hid (H3.out.ext hx9)
  replace H5 := Lib.hid (H5.out.ext hx9)
  replace H7 := Lib.hid (H7.out.ext hx9)
  clear hx9
  obtain ⟨L, hL⟩ : ∃ L : List Gx, [(lFork s, (none, 0, 0), (none, 0, 0)), (lTurn s 2 [], (none, 0, 0), (none, 0, 0)), (lFlip s q, (some ⟨b3, 0, none⟩, 1, 1), (none, 0, 0)), (lTurn s 14 [], (none, 0, 0), (none, 0, 0)), (lFlip s p, (some ⟨b5, 0, none⟩, 1, 1), (none, 0, 0)), (lTurn s 2 [], (none, 0, 0), (none, 0, 0)), (lFlip s q, (some ⟨b7, 0, none⟩, 1, 1), (none, 0, 0)), (lTurn s 14 [], (none, 0, 0), (none, 0, 0)), (lFork s, (none, 0, 0), (none, 0, 0))] = L := ⟨_, rfl⟩
  have EA := ext_al w9 (.cells (L.flatMap gv).toArray 51)
  have hn := heap_alloc_new w9 (.cells (L.flatMap gv).toArray 51)
  have hok : ∀ x ∈ L, GxO (w9.alloc (.cells (L.flatMap gv).toArray 51)) x := by
    intro x hx
    rw [← hL] at hx
    simp only [List.mem_cons, List.not_mem_nil, or_false] at hx
    rcases hx with rfl | rfl | rfl | rfl | rfl | rfl | rfl | rfl | rfl
    · exact opO_plain _ rfl rfl
    · exact opO_plain _ rfl rfl
    · exact H3.out.ext EA
    · exact opO_plain _ rfl rfl
    · exact H5.out.ext EA
    · exact opO_plain _ rfl rfl
    · exact H7.out.ext EA
    · exact opO_plain _ rfl rfl
    · exact opO_plain _ rfl rfl
  have HO := Lib.hid (opsO_lit (base := w.heap.size) L (n := 9) (by rw [← hL]; rfl) hn HE9.out.size (by decide) hok)
  have HEE := Lib.hid (HE9.out.trans EA)
  have Hsz := Lib.hid HE9.out.size
  have Hmap := Lib.hid (show L.map (·.1) = lJoin p q s by rw [← hL]; rfl)
  subst hL
  clear EA hn hok
  go_wp2_with fail
  go_ret
  refine ⟨_, rfl, ?_, Hsz.out, HEE.out⟩
  have := HO.out
  rw [Hmap.out] at this
  exact this
end Go.Proofs.YthgmlhddanbbpaaDoor
namespace Go.Proofs.YthgmlhddanbbpaaDoor
open Go.RowKit

/-- The cells of ints, those of none too. -/
theorem srcI {w : World} {ao : Option Addr} {n : Nat} {l : List Int} (h : IntsAt w ao n l) : ∃ ys : List Value, ys.length = n * 1 ∧ (∀ ad, ao = some ad → ∀ j u, ys[j]? = some u → w.cell? (ad.add j) = some u) ∧ (∀ u ∈ ys, u.oneCell' = true) ∧ ys = iC l := by
  refine ⟨iC l, by rw [iC_length, h.1, Nat.mul_one], fun ad e j u hu => ?_, fun u hu => ?_, rfl⟩
  · have hj : j < n := by
      have := (List.getElem?_eq_some_iff.1 hu).1
      rw [iC_length, h.1] at this
      exact this
    obtain ⟨b, o, e2, _, hc⟩ := h.2.resolve_left (by omega)
    rw [e] at e2
    cases e2
    rw [Addr.add_lit, hc j hj, ← hu]
    unfold iC
    rw [List.getElem?_map, List.getD_eq_getElem?_getD, List.getElem?_eq_getElem (by rw [h.1]; exact hj)]
    rfl
  · obtain ⟨_, _, rfl⟩ := List.mem_map.1 hu
    rfl
set_option maxHeartbeats 2000000 in
set_option maxRecDepth 100000 in
theorem growI_any (m : Nat) (w : World) (hm : m ≤ 10000) : Calls Tryd.prog 56 #[.slice none 0 0, .int .i64 (m : Int)] w fun e w' => ∃ v', e = .returned v' ∧ w'.ownsRow w.heap.size 3 1 v' 0 [] ∧ Ext w w' := by
  obtain ⟨i0, hi, hz0, hz1, hz2⟩ := info_parts i_info
  by_cases h0 : m = 0
  · subst h0
    go_enter Tryd.func56, Tryd.ntmps56
    go_wp2_with fail
    go_ret
    exact ⟨_, rfl, World.ownsRow_nil _ _ _ _, Ext.refl _⟩
  · obtain ⟨Gc, cur, hG1, hG2, hcs, hrz⟩ : ∃ (Gc : Nat) (cur : Array Value), m ≤ Gc ∧ Gc ≤ maxLen ∧ cur.size = Gc * 1 ∧ ∀ ty, (Builtin.append_ #[25, 3] ty #[.slice none 0 0, .int .i64 (m : Int)]).run Tryd.prog w = .ok (.slice (some ⟨w.heap.size, 0, none⟩) m Gc) (w.drew.alloc (.cells cur 3)) := by
      refine ⟨grownCap w m 0 3, #[] ++ Builtin.zeroCells (Value.cells (.int .i64 0)) m ++ Builtin.zeroCells (Value.cells (.int .i64 0)) (grownCap w m 0 3 - m), grownCap_ge w m 0 _, grownCap_le_maxLen w m 0 _ (by unfold maxLen; omega), ?_, fun ty => ?_⟩
      · have hge := grownCap_ge w m 0 3
        have h6 : (Value.cells (.int .i64 0)).size = 1 := rfl
        simp only [Array.size_append, size_zeroCells, h6, List.size_toArray, List.length_nil]
        omega
      · have h := Lib.run_append_grow_zeros (P := Tryd.prog) w 25 3 ty 3 i0 (.int .i64 0) .i64 .i64 Tryd.underlying25 Tryd.underlying3 hi hz0 none 0 0 [] (run_firstCells_none w.drew i0.size 0 0 0) m (by omega) (by rw [hz1]; decide) (by omega) (by omega) (by rw [hz2]; omega) (by rw [hz2]; exact growslice_fits (need := 0 + m) (old := 0) (bytes := 8) (by omega) (by omega))
        rw [Nat.zero_add] at h
        exact h
    have hown := World.ownsRow_made (base := w.heap.size) (e := 3) (size := 1) w.drew cur Gc (Nat.le_refl _) hG2 hcs
    have hE0 : Ext w w.drew := Below.drew (Ext.refl w)
    have hE : Ext w (w.drew.alloc (.cells cur 3)) := hE0.trans (ext_al _ _)
    have Hown := Lib.hid hown; have HE := Lib.hid hE
    have p0 : ¬ (m : Int) < 0 := by omega
    have p1 : (0 : Int) < (m : Int) := by omega
    have p2 : IntKind.i64.wrap ((m : Int) - 0) = (m : Int) := by rw [IntKind.wrap_i64]; omega
    have hG3 : Gc ≤ 9223372036854775807 := by unfold maxLen at hG2; omega
    clear hi hz0 hz1 hz2 hown hE hE0 hG2 hcs h0
    go_enter Tryd.func56, Tryd.ntmps56
    go_wp2_with (at_builtin; refine Lib.wpList_append_run _ rfl _ _ _ _ rfl _ _ rfl rfl _ _ (hrz _) ?_)
    all_goals (go_ret; exact ⟨_, rfl, Hown.out, HE.out⟩)

set_option maxHeartbeats 8000000 in
set_option maxRecDepth 100000 in
theorem concatI_any (s : Nat) (ao : Option Addr) (n cp : Nat) (bo : Option Addr) (m cq : Nat) (opsA opsB : List Int) (w : World) (hA : IntsAt w ao n opsA) (hB : IntsAt w bo m opsB) (hna : ao = none → cp = 0) (hnb : bo = none → cq = 0) (hn : n ≤ 4096) (hm : m ≤ 4096)
    (c0 : w.cell? ⟨s, 0, none⟩ = some (.slice ao n cp)) (c1 : w.cell? ⟨s, 1, none⟩ = some (.slice bo m cq)) :
    Calls Tryd.prog 35 #[.slice (some ⟨s, 0, none⟩) 2 2] w fun e w' => ∃ v', e = .returned v' ∧ w'.ownsRow w.heap.size 3 1 v' (n + m) (iC (opsA ++ opsB)) ∧ Ext w w' := by
  obtain ⟨i0, hi, hz0, hz1, hz2⟩ := info_parts i_info
  have hlA := hA.1; have hlB := hB.1
  obtain ⟨ya, ya1, ya2, ya3, ya4⟩ := srcI hA
  obtain ⟨yb, yb1, yb2, yb3, yb4⟩ := srcI hB
  have hnoA : ao = none → n = 0 := fun e => by
    rcases hA.2 with h | ⟨_, _, h, _⟩
    · exact h
    · rw [e] at h; cases h
  have hnoB : bo = none → m = 0 := fun e => by
    rcases hB.2 with h | ⟨_, _, h, _⟩
    · exact h
    · rw [e] at h; cases h
  have HA1 := Lib.hid ya1; have HA2 := Lib.hid ya2; have HA3 := Lib.hid ya3; have HA4 := Lib.hid ya4; have HB1 := Lib.hid yb1; have HB2 := Lib.hid yb2; have HB3 := Lib.hid yb3; have HB4 := Lib.hid yb4
  have HlA := Lib.hid hlA; have HlB := Lib.hid hlB; have HnA := Lib.hid hna; have HnB := Lib.hid hnb; have HnoA := Lib.hid hnoA; have HnoB := Lib.hid hnoB
  have slt : s < w.heap.size := World.block_lt_of_cell? w _ c0
  have Hslt := Lib.hid slt
  have HGr := Lib.hid (fun k wx (hk : k ≤ 10000) => growI_any k wx hk)
  obtain ⟨nm, hnm⟩ : ∃ y, n + m = y := ⟨_, rfl⟩
  have hnm4 : nm ≤ 8192 := by omega
  have w1 : IntKind.i64.wrap (0 + (n : Int)) = (n : Int) := by rw [IntKind.wrap_i64]; omega
  have w2 : IntKind.i64.wrap ((n : Int) + (m : Int)) = (nm : Int) := by rw [IntKind.wrap_i64]; omega
  have p1 : ¬ (n : Int) < 0 := by omega
  have p2 : ¬ (nm : Int) < 0 := by omega
  have C0 := Lib.hid c0; have C1 := Lib.hid c1
  clear hA hB ya1 ya2 ya3 ya4 yb1 yb2 yb3 yb4 hlA hlB hna hnb hnoA hnoB slt
  go_enter Tryd.func35, Tryd.ntmps35
  go_wp2_with fail
  go_loopg [3, 5, 11] 2 (fun kk s3 s5 s11 wx => ∃ i : Nat, s11 = .int .i64 (i : Int) ∧ i ≤ 2 ∧ 2 - i = kk ∧ s3 = .int .i64 (pre2 (0 : Int) (n : Int) (nm : Int) i) ∧ wx = w)
  case atStart => exact ⟨0, rfl, by omega, by omega, rfl, rfl⟩
  case round =>
    obtain ⟨i, rfl, hi2, hk, rfl, rfl⟩ := hrel
    by_cases h2 : i = 2
    · subst h2
      have e2 : pre2 (0 : Int) (n : Int) (nm : Int) 2 = (nm : Int) := rfl
      rw [e2]
      obtain ⟨W9, rfl⟩ : ∃ W9 : World, W9 = wr := ⟨_, rfl⟩
      go_wp2_with fail
      refine (HGr.out nm W9 (by omega)).mono ?_
      rintro e u1 ⟨v0, rfl, hO, hE⟩
      have HO := Lib.hid hO; have HE := Lib.hid hE
      clear hO hE
      go_wp2_with fail
      go_loopg [6, 8, 27] 2 (fun kk s6 s8 s27 wx => ∃ j : Nat, s27 = .int .i64 (j : Int) ∧ j ≤ 2 ∧ 2 - j = kk ∧ Ext W9 wx ∧ ∃ (v6 : Value) (xs : List Value), v6 = s6 ∧ wx.ownsRow W9.heap.size 3 1 v6 (pre2 0 n nm j) xs ∧ xs = pre2 [] ya (ya ++ yb) j)
      case atStart => exact ⟨0, rfl, by omega, by omega, HE.out, _, [], rfl, HO.out, rfl⟩
      case round =>
        obtain ⟨j, rfl, hj2, hkj, hX, v6, xs, rfl, hown, hxs⟩ := hrel
        subst hxs
        by_cases h3 : j = 2
        · subst h3
          have HL := Lib.hid (show wr.ownsRow W9.heap.size 3 1 v6 (n + m) (iC (opsA ++ opsB)) by
            have e : iC (opsA ++ opsB) = ya ++ yb := by rw [HA4.out, HB4.out]; simp [iC]
            rw [e, hnm]
            exact hown)
          have HX := Lib.hid hX
          clear hown hX
          go_wp2_with fail
          go_ret
          exact ⟨_, rfl, HL.out, HX.out⟩
        rcases (show j = 0 ∨ j = 1 by omega) with h4 | h4
        · subst h4
          have hc := cell_ext C0.out hX
          have Hown := Lib.hid (show wr.ownsRow W9.heap.size 3 1 v6 0 [] from hown); have HX := Lib.hid hX
          clear hown hX
          obtain ⟨aa, haa⟩ : ∃ y, ao = y := ⟨_, rfl⟩
          rw [haa] at hc HA2 HnA HnoA
          clear haa
          cases aa with
          | none =>
            have h0 := HnoA.out rfl; have h1 := HnA.out rfl
            subst h0; subst h1
            have hy : ya = [] := List.length_eq_zero_iff.1 (by rw [HA1.out, Nat.zero_mul])
            have Hy := Lib.hid hy
            clear hy
            go_wp2_with (at_builtin; refine wpList_append_own_none rfl _ _ 25 rfl W9.heap.size 3 i0 1 Tryd.underlying25 hi _ _ _ rfl Hown.out rfl ?_)
            go_roundg (2 - 1)
            case measure => omega
            case rel => exact ⟨1, by go_num, by omega, rfl, HX.out, _, ya, rfl, by rw [Hy.out]; exact Hown.out, rfl⟩
          | some ad =>
            have Hcl := Lib.hid (show ∀ j u, ya[j]? = some u → wr.cell? (ad.add j) = some u from fun j u hu => by
              have h5 := HA2.out ad rfl j u hu
              exact (HX.out.cell (World.block_lt_of_cell? _ _ h5)).trans h5)
            go_wp2_with (at_builtin; refine wpList_append_own _ rfl _ _ 25 rfl W9.heap.size 3 i0 (.int .i64 0) 1 8 Tryd.underlying25 hi hz0 hz1 hz2 rfl (by decide) _ _ _ rfl Hown.out ad n cp ya rfl HA1.out Hcl.out HA3.out (by unfold maxLen; omega) (by omega) HX.out.size ?_; intro v' w7 hown' hgrow' _)
            have HX7 := Lib.hid (grown_ext HX.out hgrow' (fun q hq => (own_lt Hown.out q hq).1))
            have Hown7 := Lib.hid hown'
            clear hown' hgrow'
            go_roundg (2 - 1)
            case measure => omega
            case rel => exact ⟨1, by go_num, by omega, rfl, HX7.out, _, ya, rfl, by have := Hown7.out; rw [Nat.zero_add, List.nil_append] at this; exact this, rfl⟩
        · subst h4
          have hc := cell_ext C1.out hX
          have Hown := Lib.hid (show wr.ownsRow W9.heap.size 3 1 v6 n ya from hown); have HX := Lib.hid hX
          clear hown hX
          obtain ⟨aa, haa⟩ : ∃ y, bo = y := ⟨_, rfl⟩
          rw [haa] at hc HB2 HnB HnoB
          clear haa
          cases aa with
          | none =>
            have h0 := HnoB.out rfl; have h1 := HnB.out rfl
            subst h0; subst h1
            have hy : yb = [] := List.length_eq_zero_iff.1 (by rw [HB1.out, Nat.zero_mul])
            have Hy := Lib.hid hy
            clear hy
            go_wp2_with (at_builtin; refine wpList_append_own_none rfl _ _ 25 rfl W9.heap.size 3 i0 1 Tryd.underlying25 hi _ _ _ rfl Hown.out rfl ?_)
            go_roundg (2 - 2)
            case measure => omega
            case rel => exact ⟨2, by go_num, by omega, rfl, HX.out, _, (ya ++ yb), rfl, by rw [Hy.out, List.append_nil]; have := Hown.out; rw [show n = nm by omega] at this; exact this, rfl⟩
          | some ad =>
            have Hcl := Lib.hid (show ∀ j u, yb[j]? = some u → wr.cell? (ad.add j) = some u from fun j u hu => by
              have h5 := HB2.out ad rfl j u hu
              exact (HX.out.cell (World.block_lt_of_cell? _ _ h5)).trans h5)
            go_wp2_with (at_builtin; refine wpList_append_own _ rfl _ _ 25 rfl W9.heap.size 3 i0 (.int .i64 0) 1 8 Tryd.underlying25 hi hz0 hz1 hz2 rfl (by decide) _ _ _ rfl Hown.out ad m cq yb rfl HB1.out Hcl.out HB3.out (by unfold maxLen; omega) (by omega) HX.out.size ?_; intro v' w7 hown' hgrow' _)
            have HX7 := Lib.hid (grown_ext HX.out hgrow' (fun q hq => (own_lt Hown.out q hq).1))
            have Hown7 := Lib.hid hown'
            clear hown' hgrow'
            go_roundg (2 - 2)
            case measure => omega
            case rel => exact ⟨2, by go_num, by omega, rfl, HX7.out, _, (ya ++ yb), rfl, by have := Hown7.out; rw [hnm] at this; exact this, rfl⟩
    rcases (show i = 0 ∨ i = 1 by omega) with h4 | h4
    · subst h4
      have e0 : pre2 (0 : Int) (n : Int) (nm : Int) 0 = 0 := rfl
      rw [e0]
      have hc := C0.out
      go_wp2_with fail
      go_roundg (2 - 1)
      case measure => omega
      case rel => exact ⟨1, by go_num, by omega, rfl, rfl, rfl⟩
    · subst h4
      have e0 : pre2 (0 : Int) (n : Int) (nm : Int) 1 = (n : Int) := rfl
      rw [e0]
      have hc := C1.out
      go_wp2_with fail
      go_roundg (2 - 2)
      case measure => omega
      case rel => exact ⟨2, by go_num, by omega, rfl, rfl, rfl⟩


/-- slices.Clone of ints. -/
theorem cloneI_any (ao : Option Addr) (n c : Nat) (l : List Int) (w : World) (h : IntsAt w ao n l) (hb : n * 8 ≤ 140737488355328) :
    Calls Tryd.prog 29 #[.slice ao n c] w fun e w' => ∃ a' c', e = .returned (.slice a' n c') ∧ n ≤ c' ∧ c' ≤ maxLen ∧ IntsAt w' a' n l ∧ TyI w' a' ∧ Ext w w' := by
  cases ao with
  | none =>
    have h0 : n = 0 := by
      rcases h.2 with h | ⟨_, _, e, _⟩
      · exact h
      · cases e
    subst h0
    refine (Tryd.slices_Clone_int_nil 0 c w).mono ?_
    rintro e w' ⟨rfl, rfl⟩
    exact ⟨none, 0, rfl, Nat.le_refl _, Nat.zero_le _, ⟨h.1, Or.inl rfl⟩, (fun _ e => by cases e), Ext.refl _⟩
  | some ad =>
    by_cases h0 : n = 0
    · subst h0
      refine (Tryd.slices_Clone_int_zero ad c w).mono ?_
      rintro e w' ⟨v', rfl, hown, _, hE⟩
      have hl : l = [] := List.length_eq_zero_iff.1 h.1
      subst hl
      obtain ⟨a', c', rfl, h1, h2, h3, h4⟩ := ints_of_own (l := []) hown
      exact ⟨a', c', rfl, h1, h2, h3, h4, hE⟩
    · obtain ⟨b, o, e, _, hc⟩ := h.2.resolve_left h0
      cases e
      refine (Tryd.slices_Clone_int b o n c l w (by rw [h.1]; exact Nat.le_refl _) hb (fun j hj => hc j (by rw [h.1] at hj; exact hj))).mono ?_
      rintro e w' ⟨v', rfl, hown, _, hE⟩
      rw [List.take_of_length_le (by rw [h.1]; exact Nat.le_refl _)] at hown
      obtain ⟨a', c', rfl, h1, h2, h3, h4⟩ := ints_of_own (l := l) hown
      exact ⟨a', c', rfl, h1, h2, h3, h4, hE⟩
end Go.Proofs.YthgmlhddanbbpaaDoor
namespace Go.Proofs.YthgmlhddanbbpaaDoor
open Go.RowKit

theorem opsCode_none {n b : Int} : ∀ (l : List Gop) (i : Nat), (∀ g ∈ l, opCode g n b = 0) → opsCode n b i l = (0, 0)
  | [], _, _ => rfl
  | g :: r, i, h => by
    unfold opsCode
    rw [if_neg (fun e => e (h g (by simp)))]
    exact opsCode_none r (i + 1) (fun x hx => h x (by simp [hx]))
theorem purF_none : ∀ (l : List Gop) (i : Nat), (∀ g ∈ l, g.kind < 5 ∧ g.cnd = []) → purF i l = (0, 0)
  | [], _, _ => rfl
  | g :: r, i, h => by
    unfold purF
    have := h g (by simp)
    rw [if_neg (by rw [this.2]; simp; omega)]
    exact purF_none r (i + 1) (fun x hx => h x (by simp [hx]))
theorem pur_gates {l : List Gop} (hl : l.length ≤ 4096) (h : ∀ g ∈ l, LOk 12 0 g) (hk : ∀ g ∈ l, g.kind < 5 ∧ g.cnd = []) : (pur ⟨12, 0, l⟩).1 = 0 := by
  have h1 : chk ⟨12, 0, l⟩ = (0, 0) := by
    unfold chk
    simp only
    rw [if_neg (by decide), if_neg (by decide), if_neg (by omega)]
    exact opsCode_none l 0 (fun g hg => (h g hg).code)
  unfold pur
  rw [h1, if_neg (by decide)]
  simp only
  rw [purF_none l 0 hk]

set_option maxRecDepth 100000 in
set_option maxHeartbeats 2000000 in
theorem undone_any (gs : List Gop) (a : Option Addr) (n c : Nat) (w : World) (h : OpsAt w a n gs) (hn : n ≤ c) (hc : c ≤ 9223372036854775807) (hS : Shp w) (hp : (pur ⟨12, 0, gs⟩).1 = 0) :
    Calls Tryd.prog 51 #[.slice a n c] w fun e w' => ∃ a' c', e = .returned (.slice a' n c') ∧ OpsO w' w.heap.size (.slice a' n c') (invO gs) ∧ Ext w w' := by
  have HI := Lib.hid (Inverse_N ⟨12, 0, gs⟩ a n c w h hn hc hS hp)
  clear h hn hc hS hp
  simp only at HI
  go_enter Tryd.func51, Tryd.ntmps51
  go_wp2_with fail
  refine HI.out.mono ?_
  rintro e w1 ⟨⟨a', c', rfl, hO⟩, hx⟩
  have h1 := heap_alloc_new w1 (.cells #[.int .i64 12, .int .i64 0, .slice a' n c'] 24)
  have E1 := ext_al w1 (.cells #[.int .i64 12, .int .i64 0, .slice a' n c'] 24)
  have E2 := ext_al (w1.alloc (.cells #[.int .i64 12, .int .i64 0, .slice a' n c'] 24)) (.cells #[.int .i64 0, .int .i64 0] 27)
  have bC : CiB ((w1.alloc (.cells #[.int .i64 12, .int .i64 0, .slice a' n c'] 24)).alloc (.cells #[.int .i64 0, .int .i64 0] 27)) w1.heap.size 12 0 a' n c' := CiB.ext ⟨h1⟩ E2
  have x2 := bC.x2
  have HO := Lib.hid ((((hO.o).ext E1).ext E2))
  have HO2 := Lib.hid (show OpsO ((w1.alloc (.cells #[.int .i64 12, .int .i64 0, .slice a' n c'] 24)).alloc (.cells #[.int .i64 0, .int .i64 0] 27)) w.heap.size (.slice a' n c') (invO gs) from (((hO.down (by omega)).o.ext E1).ext E2))
  have HE := Lib.hid (hx.trans (E1.trans E2))
  clear h1 E1 E2 bC hO hx HI HO
  go_wp2_with fail
  go_ret
  exact ⟨a', c', rfl, HO2.out, HE.out⟩

set_option maxRecDepth 100000 in
set_option maxHeartbeats 2000000 in
theorem around_any (kd k : Int) (a1 : Option Addr) (n1 c1 : Nat) (q bt : Int) (a2 : Option Addr) (n2 c2 : Nat) (ctl cnd : List Int) (w : World) :
    Calls Tryd.prog 32 #[.agg #[.int .i64 kd, .int .i64 k, .slice a1 n1 c1, .int .i64 q, .int .i64 bt, .slice a2 n2 c2]] w fun e w' => ∃ a n c, e = .returned (.slice a n c) ∧ OpsO w' w.heap.size (.slice a n c) (lAround ⟨kd, k, ctl, q, bt, cnd⟩) ∧ Ext w w' := by
  obtain ⟨U, hU⟩ : ∃ U, w.alloc (.cells #[.int .i64 kd, .int .i64 k, .slice a1 n1 c1, .int .i64 q, .int .i64 bt, .slice a2 n2 c2] 51) = U := ⟨_, rfl⟩
  obtain ⟨G, hG⟩ : ∃ G, w.heap.size = G := ⟨_, rfl⟩
  have HE := Lib.hid (show Ext w U by rw [← hU]; exact ext_al w _)
  have HB := Lib.hid (show OpBx U G kd k a1 n1 c1 q bt a2 n2 c2 by rw [← hU, ← hG]; exact opbx_new w kd k a1 n1 c1 q bt a2 n2 c2)
  have d0 := HB.out.x0; have d3 := HB.out.x3
  have HU := Lib.hid hU; have HG := Lib.hid hG
  by_cases h2 : kd = 2
  · subst h2
    have Hl := Lib.hid (show lAround ⟨2, k, ctl, q, bt, cnd⟩ = [lFork q] from rfl)
    clear hU hG
    go_enter Tryd.func32, Tryd.ntmps32
    go_upto_region 1 with fail
    rw [HU.out, HG.out]
    go_wp2_with fail
    refine (fork_any q U).mono ?_
    rintro e w1 ⟨rfl, hx⟩
    have EA := ext_al w1 (.cells (([(lFork q, (none, 0, 0), (none, 0, 0))] : List Gx).flatMap gv).toArray 51)
    have hn := heap_alloc_new w1 (.cells (([(lFork q, (none, 0, 0), (none, 0, 0))] : List Gx).flatMap gv).toArray 51)
    have HO := Lib.hid (opsO_lit (base := w.heap.size) [(lFork q, (none, 0, 0), (none, 0, 0))] (n := 1) rfl hn (Nat.le_trans HE.out.size hx.size) (by decide) (fun x hx => by
      simp only [List.mem_cons, List.not_mem_nil, or_false] at hx
      rw [hx]; exact opO_plain _ rfl rfl))
    have HEE := Lib.hid (HE.out.trans (hx.trans EA))
    clear EA hn hx d0 d3
    go_wp2_with fail
    go_ret
    exact ⟨_, _, _, rfl, by rw [Hl.out]; exact HO.out, HEE.out⟩
  · have b2 := bf h2
    by_cases h3 : kd = 3
    · subst h3
      have Hl := Lib.hid (show lAround ⟨3, k, ctl, q, bt, cnd⟩ = [lTurn q 4 [], lFork q, lTurn q 2 [], lFork q] from rfl)

      clear hU hG h2 b2
      go_enter Tryd.func32, Tryd.ntmps32
      go_upto_region 1 with fail
      rw [HU.out, HG.out]
      go_upto_region 5 with fail
      clear d0
      have e0 : Ext U U.drew := Below.drew (Ext.refl _)
      refine wp_region_any (by kernel_rfl) (anyT_plain (k := 99) (S := fun w' => True) (T := fun w' => w'.cell? ⟨G, 3, none⟩ = some (.int .i64 q)) _ _ _ _ ?_)
      show anyT _ _ _ _ _ _ _ 14 #[false, false, false, false, false, false, false, false, false, false, false, false, false, false] _ _
      have hT : U.drew.cell? ⟨G, 3, none⟩ = some (.int .i64 q) := cell_ext d3 e0
      have hHeld : True := trivial
      refine anyT_takeT (i := 0) (v := ?_) rfl (by decide) (by kernel_rfl) (by kernel_rfl) (by kernel_rfl) (fun _ _ _ h => h) (Or.inl ⟨by rfl, ?_⟩) hT (fun _ => hHeld) ?_
      rotate_left 1
      · intro w hSw
        go_simp
        try with_reducible rfl
      show anyT _ _ _ _ _ _ _ _ _ (Act.put _ (some 13) _) _
      simp only [Act.put, List.setIfInBounds_toArray, List.set_cons_zero, List.set_cons_succ]
      refine anyT_takeT (i := 1) (v := ?_) rfl (by decide) (by kernel_rfl) (by kernel_rfl) (by kernel_rfl) (fun _ _ _ h => h) (Or.inl ⟨by rfl, ?_⟩) hT (fun _ => hHeld) ?_
      rotate_left 1
      · intro w hSw
        go_simp
        try with_reducible rfl
      show anyT _ _ _ _ _ _ _ _ _ (Act.put _ (some 14) _) _
      simp only [Act.put, List.setIfInBounds_toArray, List.set_cons_zero, List.set_cons_succ]
      refine anyT_takeT (i := 3) (v := ?_) rfl (by decide) (by kernel_rfl) (by kernel_rfl) (by kernel_rfl) (fun _ _ _ h => h) (Or.inl ⟨by rfl, ?_⟩) hT (fun _ => hHeld) ?_
      rotate_left 1
      · intro w hSw
        go_simp
        try with_reducible rfl
      show anyT _ _ _ _ _ _ _ _ _ (Act.put _ (some 16) _) _
      simp only [Act.put, List.setIfInBounds_toArray, List.set_cons_zero, List.set_cons_succ]
      refine anyT_takeT (i := 4) (v := ?_) rfl (by decide) (by kernel_rfl) (by kernel_rfl) (by kernel_rfl) (fun _ _ _ h => h) (Or.inl ⟨by rfl, ?_⟩) hT (fun _ => hHeld) ?_
      rotate_left 1
      · intro w hSw
        go_simp
        try with_reducible rfl
      show anyT _ _ _ _ _ _ _ _ _ (Act.put _ (some 17) _) _
      simp only [Act.put, List.setIfInBounds_toArray, List.set_cons_zero, List.set_cons_succ]
      refine anyT_takeT (i := 6) (v := ?_) rfl (by decide) (by kernel_rfl) (by kernel_rfl) (by kernel_rfl) (fun _ _ _ h => h) (Or.inl ⟨by rfl, ?_⟩) hT (fun _ => hHeld) ?_
      rotate_left 1
      · intro w hSw
        go_simp
        try with_reducible rfl
      show anyT _ _ _ _ _ _ _ _ _ (Act.put _ (some 19) _) _
      simp only [Act.put, List.setIfInBounds_toArray, List.set_cons_zero, List.set_cons_succ]
      refine anyT_takeT (i := 7) (v := ?_) rfl (by decide) (by kernel_rfl) (by kernel_rfl) (by kernel_rfl) (fun _ _ _ h => h) (Or.inl ⟨by rfl, ?_⟩) hT (fun _ => hHeld) ?_
      rotate_left 1
      · intro w hSw
        go_simp
        try with_reducible rfl
      show anyT _ _ _ _ _ _ _ _ _ (Act.put _ (some 20) _) _
      simp only [Act.put, List.setIfInBounds_toArray, List.set_cons_zero, List.set_cons_succ]
      refine anyT_takeT (i := 9) (v := ?_) rfl (by decide) (by kernel_rfl) (by kernel_rfl) (by kernel_rfl) (fun _ _ _ h => h) (Or.inl ⟨by rfl, ?_⟩) hT (fun _ => hHeld) ?_
      rotate_left 1
      · intro w hSw
        go_simp
        try with_reducible rfl
      show anyT _ _ _ _ _ _ _ _ _ (Act.put _ (some 22) _) _
      simp only [Act.put, List.setIfInBounds_toArray, List.set_cons_zero, List.set_cons_succ]
      refine anyT_takeT (i := 10) (v := ?_) rfl (by decide) (by kernel_rfl) (by kernel_rfl) (by kernel_rfl) (fun _ _ _ h => h) (Or.inl ⟨by rfl, ?_⟩) hT (fun _ => hHeld) ?_
      rotate_left 1
      · intro w hSw
        go_simp
        try with_reducible rfl
      show anyT _ _ _ _ _ _ _ _ _ (Act.put _ (some 23) _) _
      simp only [Act.put, List.setIfInBounds_toArray, List.set_cons_zero, List.set_cons_succ]
      clear hT hHeld
      refine anyT_one (i := 2) (by kernel_rfl) rfl (fun Kk hKk => ?_)
      go_simp
      (go_at_call 53; refine (turn4_any q U.drew).mono ?_; rintro e u1 ⟨rfl, hx1⟩)
      have e1 : Ext U u1 := e0.trans hx1
      go_wp2_with fail
      refine hKk.out _ _ (cell_ext d3 e1) (fun _ => trivial) ?_
      clear hKk Kk
      simp only [List.setIfInBounds_toArray, List.set_cons_zero, List.set_cons_succ]
      refine anyT_one (i := 5) (by kernel_rfl) rfl (fun Kk hKk => ?_)
      go_simp
      (go_at_call 52; refine (fork_any q u1).mono ?_; rintro e u2 ⟨rfl, hx2⟩)
      have e2 : Ext U u2 := e1.trans hx2
      go_wp2_with fail
      refine hKk.out _ _ (cell_ext d3 e2) (fun _ => trivial) ?_
      clear hKk Kk
      simp only [List.setIfInBounds_toArray, List.set_cons_zero, List.set_cons_succ]
      refine anyT_one (i := 8) (by kernel_rfl) rfl (fun Kk hKk => ?_)
      go_simp
      (go_at_call 53; refine (turn2_any q u2).mono ?_; rintro e u3 ⟨rfl, hx3⟩)
      have e3 : Ext U u3 := e2.trans hx3
      go_wp2_with fail
      refine hKk.out _ _ (cell_ext d3 e3) (fun _ => trivial) ?_
      clear hKk Kk
      simp only [List.setIfInBounds_toArray, List.set_cons_zero, List.set_cons_succ]
      refine anyT_one (i := 11) (by kernel_rfl) rfl (fun Kk hKk => ?_)
      go_simp
      (go_at_call 52; refine (fork_any q u3).mono ?_; rintro e u4 ⟨rfl, hx4⟩)
      have e4 : Ext U u4 := e3.trans hx4
      go_wp2_with fail
      refine hKk.out _ _ (cell_ext d3 e4) (fun _ => trivial) ?_
      clear hKk Kk
      simp only [List.setIfInBounds_toArray, List.set_cons_zero, List.set_cons_succ]
      have EA := ext_al u4 (.cells (([(lTurn q 4 [], (none, 0, 0), (none, 0, 0)), (lFork q, (none, 0, 0), (none, 0, 0)), (lTurn q 2 [], (none, 0, 0), (none, 0, 0)), (lFork q, (none, 0, 0), (none, 0, 0))] : List Gx).flatMap gv).toArray 51)
      have hn := heap_alloc_new u4 (.cells (([(lTurn q 4 [], (none, 0, 0), (none, 0, 0)), (lFork q, (none, 0, 0), (none, 0, 0)), (lTurn q 2 [], (none, 0, 0), (none, 0, 0)), (lFork q, (none, 0, 0), (none, 0, 0))] : List Gx).flatMap gv).toArray 51)
      have HO := Lib.hid (opsO_lit (base := w.heap.size) ([(lTurn q 4 [], (none, 0, 0), (none, 0, 0)), (lFork q, (none, 0, 0), (none, 0, 0)), (lTurn q 2 [], (none, 0, 0), (none, 0, 0)), (lFork q, (none, 0, 0), (none, 0, 0))] : List Gx) (n := 4) rfl hn (Nat.le_trans HE.out.size e4.size) (by decide) (fun x hx => by
        simp only [List.mem_cons, List.not_mem_nil, or_false] at hx
        rcases hx with rfl | rfl | rfl | rfl
        all_goals exact opO_plain _ rfl rfl))
      have e5 := e4.trans EA
      have HEE := Lib.hid (HE.out.trans e5)
      refine anyT_one (i := 12) (by kernel_rfl) rfl (fun Kk hKk => ?_)
      go_wp2_with fail
      refine hKk.out _ _ (cell_ext d3 e5) (fun _ => trivial) ?_
      clear hKk Kk
      simp only [List.setIfInBounds_toArray, List.set_cons_zero, List.set_cons_succ]
      have hT : (u4.alloc (.cells (([(lTurn q 4 [], (none, 0, 0), (none, 0, 0)), (lFork q, (none, 0, 0), (none, 0, 0)), (lTurn q 2 [], (none, 0, 0), (none, 0, 0)), (lFork q, (none, 0, 0), (none, 0, 0))] : List Gx).flatMap gv).toArray 51)).cell? ⟨G, 3, none⟩ = some (.int .i64 q) := cell_ext d3 e5
      have hHeld : True := trivial
      refine anyT_takeT (i := 13) (v := ?_) rfl (by decide) (by kernel_rfl) (by kernel_rfl) (by kernel_rfl) (fun _ _ _ h => h) (Or.inl ⟨by rfl, ?_⟩) hT (fun _ => hHeld) ?_
      rotate_left 1
      · intro w hSw
        go_simp
        try with_reducible rfl
      show anyT _ _ _ _ _ _ _ _ _ (Act.put _ (some 2) _) _
      simp only [Act.put, List.setIfInBounds_toArray, List.set_cons_zero, List.set_cons_succ]
      refine anyT_done (by kernel_rfl) ?_ _
      clear EA hn hT hHeld e0 e1 e2 e3 e4 e5 hx1 hx2 hx3 hx4 d3
      go_wp2_with fail
      go_ret
      exact ⟨_, _, _, rfl, by rw [Hl.out]; exact HO.out, HEE.out⟩
    · have b3 := bf h3
      have Hl := Lib.hid (show lAround ⟨kd, k, ctl, q, bt, cnd⟩ = [] by unfold lAround; rw [if_neg h2, if_neg h3])
      clear hU hG h2 h3
      go_enter Tryd.func32, Tryd.ntmps32
      go_upto_region 1 with fail
      rw [HU.out, HG.out]
      go_wp2_with fail
      go_ret
      exact ⟨none, 0, 0, rfl, by rw [Hl.out]; exact OpsO.nil _ _, HE.out⟩
end Go.Proofs.YthgmlhddanbbpaaDoor
namespace Go.Proofs.YthgmlhddanbbpaaDoor
open Go.RowKit

/-- What a body that appends does. -/
def Apps (w0 : World) (Bd : Nat) (sp : Int) (F : FuncId) (args : Array Value) (w : World) (v : Value) (ops more : List Gop) : Prop :=
  Calls Tryd.prog F args w fun e w' => e = .returned (.tuple #[]) ∧ ∃ v', Mv Bd v v' w w' ∧ BdA w0 w' Bd sp v' (ops ++ more)

set_option maxRecDepth 100000 in
set_option maxHeartbeats 2000000 in
theorem between_any (F : FuncId) (caps : Array Value) (w0 w : World) (Bd : Nat) (sp : Int) (v : Value) (ops gs more : List Gop) (ga : Option Addr) (gn gc gb : Nat) (hB : BdA w0 w Bd sp v ops) (hG : OpsO w gb (.slice ga gn gc) gs) (hne : ∀ k, (Value.slice ga gn gc).ownBlock = some k → v.ownBlock ≠ some k) (hp : (pur ⟨12, 0, gs⟩).1 = 0) (hS : Shp w0) (hEnt : ∀ (args : Array Value) (wx : World), (callFunc F args).run Tryd.prog wx = .ok (.enter F args) wx)
    (hl : ops.length + gs.length + more.length + gs.length ≤ 1000000) (hbody : ∀ wx vx, Mv Bd v vx w wx → BdA w0 wx Bd sp vx (ops ++ gs) → Apps w0 Bd sp F caps wx vx (ops ++ gs) more) :
    Apps w0 Bd sp 31 #[.pointer (some ⟨Bd, 0, none⟩), .slice ga gn gc, .func (.func F) #[] caps] w v ops (gs ++ more ++ invO gs) := by
  unfold Apps
  obtain ⟨va, vc, hv⟩ := hB.sl
  subst hv
  obtain ⟨sl, sn, ys, s1, s2, s3, s4⟩ := hG.src
  obtain ⟨a1, c1, w1, r1, k1, m1, B1, M1⟩ := bd_append hB 22 sl sn ys s1 s2 s3 s4 (by omega)
  have x1 := hB.x1
  have y1 : w1.cell? ⟨Bd, 1, none⟩ = some (.slice va ops.length vc) := (World.cell?_of_block (a := ⟨Bd, 1, none⟩) k1).trans x1
  have f1 : w1.frozen? ⟨Bd, 1, none⟩ = false := (World.frozen?_of_block (a := ⟨Bd, 1, none⟩) k1).trans (hB.f 1)
  have HG1 := Lib.hid (hG.mv hB M1 hne)
  have hne1 : ∀ k, (Value.slice ga gn gc).ownBlock = some k → (Value.slice a1 (ops.length + gn) c1).ownBlock ≠ some k := fun k hk e => by
    rcases M1.own k e with e | e
    · exact hne k hk e
    · have := (own_lt hG.rows.choose_spec.1 k hk).2
      omega
  have Hb := Lib.hid hbody; have HM1 := Lib.hid M1; have HB1 := Lib.hid B1; have Hne1 := Lib.hid hne1; have Hsl := Lib.hid sl; have Hl := Lib.hid hl; have Hp := Lib.hid hp; have HS := Lib.hid hS
  have Hr1 := Lib.hid r1
  clear hbody M1 B1 hne1 hl hp hS s1 s2 s3 s4 sn hB hG hne k1 m1 sl r1
  go_enter Tryd.func31, Tryd.ntmps31
  go_upto_region 1 with (at_builtin; refine Lib.wpList_append_run _ rfl _ _ _ _ rfl _ _ rfl rfl _ _ Hr1.out ?_)
  clear x1 y1 f1
  generalize w1.setCell ⟨Bd, 1, none⟩ (.slice a1 (ops.length + gn) c1) = W1 at *
  have HBo := Lib.hid (Hb.out W1 _ HM1.out HB1.out)
  unfold Apps at HBo
  clear Hb
  have HEnt := Lib.hid hEnt
  clear hEnt
  go_wp2_with fail
  rw [HEnt.out, Oper.upon_enter]
  refine HBo.out.mono ?_
  rintro e w2 ⟨rfl, v2, hM2, hB2⟩
  obtain ⟨a2, c2, hv2⟩ := hB2.sl
  subst hv2
  have hG2 := HG1.out.mv HB1.out hM2 Hne1.out
  have hne2 : ∀ k, (Value.slice ga gn gc).ownBlock = some k → (Value.slice a2 (ops ++ gs ++ more).length c2).ownBlock ≠ some k := fun k hk e => by
    rcases hM2.own k e with e | e
    · exact Hne1.out k hk e
    · have := (own_lt HG1.out.rows.choose_spec.1 k hk).2
      omega
  obtain ⟨ga', gc', eg, hgn, hgc, hgat⟩ := hG2.at
  injection eg with eg1 eg2 eg3
  subst eg1; subst eg3
  rw [Hsl.out] at hgn hgat
  have x1 := hB2.x1
  have Ed : Ext w2 w2.drew := Below.drew (Ext.refl _)
  have HUn := Lib.hid (undone_any gs ga gn gc w2.drew (hgat.ext Ed) hgn (by unfold maxLen at hgc; omega) (HS.out.ext (hB2.ext.trans Ed)) Hp.out)
  have HM2 := Lib.hid (HM1.out.trans hM2); have HB2 := Lib.hid hB2
  have HL2 := Lib.hid (show (ops ++ gs ++ more).length + gn ≤ 1000000 by
    have := Hl.out; have := Hsl.out
    simp only [List.length_append]
    omega)
  obtain ⟨LL, hLL⟩ : ∃ LL, (ops ++ gs ++ more).length = LL := ⟨_, rfl⟩
  rw [hLL] at x1
  have HLL := Lib.hid hLL
  clear hM2 hB2 hG2 hgn hgc hgat HM1 HB1 HG1 Hne1 HBo hLL eg2 hne2
  go_upto_region 2 with fail
  refine wp_region_K 10 (fun w' => w'.cell? ⟨Bd, 1, none⟩ = some (.slice a2 LL c2)) (by kernel_rfl) ?_
  show anyK _ _ _ _ _ _ 11 #[false, false, false, false, false, false, false, false, false, false, false] _ _
  have hHeld : w2.drew.cell? ⟨Bd, 1, none⟩ = some (.slice a2 LL c2) := cell_ext x1 Ed
  refine anyK_take (i := 0) (v := ?_) rfl (by kernel_rfl) (by kernel_rfl) (by kernel_rfl) (N := 11) (by kernel_rfl) (by kernel_rfl) (by kernel_rfl) (fun _ _ _ h => h) (Or.inl ⟨by rfl, ?_⟩) hHeld ?_
  rotate_left 1
  · intro w hSw
    go_simp
    try with_reducible rfl
  show anyK _ _ _ _ _ _ _ _ (Act.put _ (some 17) _) _
  simp only [Act.put, List.setIfInBounds_toArray, List.set_cons_zero, List.set_cons_succ]
  refine anyK_take (i := 1) (v := ?_) rfl (by kernel_rfl) (by kernel_rfl) (by kernel_rfl) (N := 11) (by kernel_rfl) (by kernel_rfl) (by kernel_rfl) (fun _ _ _ h => h) (Or.inl ⟨by rfl, ?_⟩) hHeld ?_
  rotate_left 1
  · intro w hSw
    go_simp
    try with_reducible rfl
  show anyK _ _ _ _ _ _ _ _ (Act.put _ (some 18) _) _
  simp only [Act.put, List.setIfInBounds_toArray, List.set_cons_zero, List.set_cons_succ]
  refine anyK_take (i := 2) (v := ?_) rfl (by kernel_rfl) (by kernel_rfl) (by kernel_rfl) (N := 11) (by kernel_rfl) (by kernel_rfl) (by kernel_rfl) (fun _ _ _ h => h) (Or.inl ⟨by rfl, ?_⟩) hHeld ?_
  rotate_left 1
  · intro w hSw
    go_simp
    try with_reducible rfl
  show anyK _ _ _ _ _ _ _ _ (Act.put _ (some 19) _) _
  simp only [Act.put, List.setIfInBounds_toArray, List.set_cons_zero, List.set_cons_succ]
  refine anyK_take (i := 3) (v := ?_) rfl (by kernel_rfl) (by kernel_rfl) (by kernel_rfl) (N := 11) (by kernel_rfl) (by kernel_rfl) (by kernel_rfl) (fun _ _ _ h => h) (Or.inl ⟨by rfl, ?_⟩) hHeld ?_
  rotate_left 1
  · intro w hSw
    go_simp
    try with_reducible rfl
  show anyK _ _ _ _ _ _ _ _ (Act.put _ (some 20) _) _
  simp only [Act.put, List.setIfInBounds_toArray, List.set_cons_zero, List.set_cons_succ]
  refine anyK_take (i := 4) (v := ?_) rfl (by kernel_rfl) (by kernel_rfl) (by kernel_rfl) (N := 11) (by kernel_rfl) (by kernel_rfl) (by kernel_rfl) (fun _ _ _ h => h) (Or.inl ⟨by rfl, ?_⟩) hHeld ?_
  rotate_left 1
  · intro w hSw
    go_simp
    try with_reducible rfl
  show anyK _ _ _ _ _ _ _ _ (Act.put _ (some 21) _) _
  simp only [Act.put, List.setIfInBounds_toArray, List.set_cons_zero, List.set_cons_succ]
  refine anyK_take (i := 5) (v := ?_) rfl (by kernel_rfl) (by kernel_rfl) (by kernel_rfl) (N := 11) (by kernel_rfl) (by kernel_rfl) (by kernel_rfl) (fun _ _ _ h => h) (Or.inl ⟨by rfl, ?_⟩) hHeld ?_
  rotate_left 1
  · intro w hSw
    go_simp
    try with_reducible rfl
  show anyK _ _ _ _ _ _ _ _ (Act.put _ (some 22) _) _
  simp only [Act.put, List.setIfInBounds_toArray, List.set_cons_zero, List.set_cons_succ]
  clear hHeld
  refine anyK_one (i := 6) (by kernel_rfl) rfl (fun Kk hKk => ?_)
  go_simp
  (go_at_call 51; refine HUn.out.mono ?_; rintro e w3 ⟨a3, c3, rfl, hO3, hx3⟩)
  have E3 := Ed.trans hx3
  go_wp2_with fail
  refine hKk.out _ _ (fun _ => cell_ext x1 E3) ?_
  clear hKk Kk
  simp only [List.setIfInBounds_toArray, List.set_cons_zero, List.set_cons_succ]
  have B3 := HB2.out.ext' E3
  obtain ⟨tl, tn, zs, z1, z2, z3, z4⟩ := hO3.src
  obtain ⟨a4, c4, w4, r4, k4, m4, B4, M4⟩ := bd_append B3 22 tl tn zs z1 z2 z3 z4 HL2.out
  rw [HLL.out] at r4 B4 M4
  have y4 : w4.cell? ⟨Bd, 1, none⟩ = some (.slice a2 LL c2) := (World.cell?_of_block (a := ⟨Bd, 1, none⟩) k4).trans (cell_ext x1 E3)
  have f4 : w4.frozen? ⟨Bd, 1, none⟩ = false := (World.frozen?_of_block (a := ⟨Bd, 1, none⟩) k4).trans (B3.f 1)
  refine anyK_one (i := 7) (by kernel_rfl) rfl (fun Kk hKk => ?_)
  refine stepK_append rfl _ _ 22 rfl (.slice a2 LL c2) (.slice a3 gn c3) _ rfl rfl r4 ?_
  refine hKk.out _ _ (fun _ => y4) ?_
  clear hKk Kk
  show anyK _ _ _ _ _ _ _ _ (Act.put _ (some 24) _) _
  simp only [Act.put, List.setIfInBounds_toArray, List.set_cons_zero, List.set_cons_succ]
  have hHeld := y4
  refine anyK_take (i := 8) (v := ?_) rfl (by kernel_rfl) (by kernel_rfl) (by kernel_rfl) (N := 11) (by kernel_rfl) (by kernel_rfl) (by kernel_rfl) (fun _ _ _ h => h) (Or.inl ⟨by rfl, ?_⟩) hHeld ?_
  rotate_left 1
  · intro w hSw
    go_simp
    try with_reducible rfl
  show anyK _ _ _ _ _ _ _ _ (Act.put _ (some 25) _) _
  simp only [Act.put, List.setIfInBounds_toArray, List.set_cons_zero, List.set_cons_succ]
  refine anyK_take (i := 9) (v := ?_) rfl (by kernel_rfl) (by kernel_rfl) (by kernel_rfl) (N := 11) (by kernel_rfl) (by kernel_rfl) (by kernel_rfl) (fun _ _ _ h => h) (Or.inl ⟨by rfl, ?_⟩) hHeld ?_
  rotate_left 1
  · intro w hSw
    go_simp
    try with_reducible rfl
  show anyK _ _ _ _ _ _ _ _ (Act.put _ (some 26) _) _
  simp only [Act.put, List.setIfInBounds_toArray, List.set_cons_zero, List.set_cons_succ]
  clear hHeld
  refine anyK_one (i := 10) (by kernel_rfl) rfl (fun Kk hKk => ?_)
  refine stepK_store rfl rfl _ _ rfl Bd 1 a4 (LL + gn) c4 (.slice a2 LL c2) rfl rfl y4 f4 ?_
  refine hKk.out _ _ (fun h => Bool.noConfusion (show true = false from h)) ?_
  clear hKk Kk
  simp only [List.setIfInBounds_toArray, List.set_cons_zero, List.set_cons_succ]
  refine anyK_done (by kernel_rfl) ?_ _
  have HEnd := Lib.hid (show ∃ v', Mv Bd (.slice va ops.length vc) v' w (w4.setCell ⟨Bd, 1, none⟩ (.slice a4 (LL + gn) c4)) ∧ BdA w0 (w4.setCell ⟨Bd, 1, none⟩ (.slice a4 (LL + gn) c4)) Bd sp v' (ops ++ (gs ++ more ++ invO gs)) from ⟨_, (HM2.out.trans (Mv.of_ext E3)).trans (by rw [HLL.out]; exact M4), by rw [← List.append_assoc, ← List.append_assoc]; exact B4⟩)
  generalize w4.setCell ⟨Bd, 1, none⟩ (.slice a4 (LL + gn) c4) = W9 at *
  clear B3 tl tn z1 z2 z3 z4 r4 k4 m4 B4 M4 y4 f4 hO3 hx3 E3 Ed x1
  go_wp2_with fail
  go_end0
  exact ⟨rfl, HEnd.out⟩
end Go.Proofs.YthgmlhddanbbpaaDoor
