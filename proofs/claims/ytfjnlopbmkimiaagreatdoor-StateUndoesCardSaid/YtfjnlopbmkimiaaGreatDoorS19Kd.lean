/-
  Lists and operations whose memory is their own: no two of them lie in one block. Copies of lists and operations, in memory of their own: as the reference makes them, and as the program does. The reference's Inverse. The reference's Then. slices.Grow of nothing, slices.Concat of two rows of operations. A copy of a circuit in memory of its own: as the reference makes it, and as the program does.
-/
import Derived.Test.YtfjnlopbmkimiaaGreatDoorProg
import Derived.Test.YtfjnlopbmkimiaaGreatDoorRows
import Derived.BigQuiet
import Derived.Deep.AppendLies
import Derived.Deep.Cut
import Derived.Deep.CutRange
import Derived.Deep.LoopGhost
import Derived.Deep.QuietTactic
import Derived.Deep.RegionHeld3
import Derived.Defers
import Derived.Ground.Names2Prog
import Derived.Laws.AppendOwnNone
import Derived.Laws.Bits64b
import Derived.Laws.Concat
import Derived.Laws.CopyOwn
import Derived.Laws.IdiomStrings
import Derived.Laws.ResultCell
import Derived.Lib.AppendStr
import Derived.Lib.AppendZeros
import Derived.Lib.AppendZerosOnto
import Derived.Lib.BitFns
import Derived.Lib.Hide
import Derived.Lib.ItoaMem
import Derived.Lib.ItoaNum
import Derived.Lib.Strings
import Derived.Maps.AppendAt
import Derived.OwnWalk
import Derived.Recover
import Derived.Shelf.Bits.Mul64
import Derived.Shelf.LaysM
import Derived.Shelf.Slices.SearchI
import Derived.Shelf.Small.Bits
import Derived.Shelf.Small.Wraps
import Derived.Shelf.Spec.BitsCarry
import Derived.Shelf.Spec.TrailingZeros
import Derived.Shelf.Strconv.Itoa0
import Derived.Shelf.Strconv.Itoa1
import Derived.Shelf.Strconv.Itoa2
import Derived.Shelf.Strconv.Itoa3
import Derived.Shelf.Strings.Builder1
import Derived.Shelf.Strings.BuilderF
import Derived.Shelf.Strings.BuilderK
import Derived.WalkKit
import Derived.WalkLawsBesides
import Derived.WalkSpells
import Derived.Test.YtfjnlopbmkimiaaGreatDoorS00Mem
import Derived.Test.YtfjnlopbmkimiaaGreatDoorShelf
import Derived.Test.YtfjnlopbmkimiaaGreatDoorS02ShiftI
import Derived.Test.YtfjnlopbmkimiaaGreatDoorS03GuessD
import Derived.Test.YtfjnlopbmkimiaaGreatDoorS04IntB
import Derived.Test.YtfjnlopbmkimiaaGreatDoorS05IntD
import Derived.Test.YtfjnlopbmkimiaaGreatDoorS06GcB
import Derived.Test.YtfjnlopbmkimiaaGreatDoorS07Rg
import Derived.Test.YtfjnlopbmkimiaaGreatDoorS08ZC
import Derived.Test.YtfjnlopbmkimiaaGreatDoorS09Bw
import Derived.Test.YtfjnlopbmkimiaaGreatDoorS10TxT
import Derived.Test.YtfjnlopbmkimiaaGreatDoorS11Xo
import Derived.Test.YtfjnlopbmkimiaaGreatDoorS12Xm
import Derived.Test.YtfjnlopbmkimiaaGreatDoorS17Dd
import Derived.Test.YtfjnlopbmkimiaaGreatDoorS18Jj
namespace Go.Proofs.YtfjnlopbmkimiaaGreatDoor
open Go.RowKit

/-- A list in a block of its own, not older than base. -/
def Iow (w : World) (base : Nat) (a : Option Addr) (n c : Nat) (l : List Int) : Prop := w.ownsRow base 3 1 (.slice a n c) n (iC l)
section
variable {w w' : World} {base base' : Nat} {a : Option Addr} {n c : Nat} {l : List Int}
theorem Iow.keep (h : Iow w base a n c l) (hk : ∀ (b : Nat) (cur : Array Value) (fr : Nat × Nat), w.heap[b]? = some (.cells cur 3 fr) → w'.heap[b]? = w.heap[b]?) : Iow w' base a n c l := own_keep h fun g cur _ hg => hk g cur (0, 0) hg
theorem Iow.ext (h : Iow w base a n c l) (k : Ext w w') : Iow w' base a n c l := own_keep h fun g _ _ hg => k.block g (Array.getElem?_eq_some_iff.1 hg).1
theorem Iow.down (h : Iow w base a n c l) (hb : base' ≤ base) : Iow w base' a n c l := by
  refine ⟨h.1, ?_⟩
  rcases h.2 with h | ⟨g, cap, cur, hv, hbg, rest⟩
  · exact Or.inl h
  · exact Or.inr ⟨g, cap, cur, hv, by omega, rest⟩
theorem Iow.lt (h : Iow w base a n c l) : ∀ k, (Value.slice a n c).ownBlock = some k → base ≤ k ∧ k < w.heap.size := own_lt h
theorem Iow.kind (h : Iow w base a n c l) : ∀ k, (Value.slice a n c).ownBlock = some k → ∃ cur fr, w.heap[k]? = some (.cells cur 3 fr) := fun k hk => (PtKind h k hk).2
theorem Iow.ints (h : Iow w base a n c l) : n ≤ c ∧ c ≤ maxLen ∧ IntsAt w a n l ∧ TyI w a := by
  obtain ⟨a', c', e, h1, h2, h3, h4⟩ := ints_of_own h
  injection e with e1 e2 e3
  subst e1; subst e3
  exact ⟨h1, h2, h3, h4⟩
theorem io_of_own {v : Value} (h : w.ownsRow base 3 1 v n (iC l)) : ∃ (a : Option Addr) (c : Nat), v = .slice a n c ∧ Iow w base a n c l := by
  obtain ⟨a', c', rfl, _⟩ := ints_of_own h
  exact ⟨a', c', rfl, h⟩
end

/-- An operation whose lists lie each in a block of its own. -/
structure OpN (w : World) (base : Nat) (o : Gop) (a1 : Option Addr) (n1 c1 : Nat) (a2 : Option Addr) (n2 c2 : Nat) : Prop where
  i1 : Iow w base a1 n1 c1 o.ctl
  i2 : Iow w base a2 n2 c2 o.cnd
  ne : ∀ k, (Value.slice a1 n1 c1).ownBlock = some k → (Value.slice a2 n2 c2).ownBlock ≠ some k
section
variable {w w' : World} {base base' : Nat} {o : Gop} {a1 : Option Addr} {n1 c1 : Nat} {a2 : Option Addr} {n2 c2 : Nat}
theorem OpN.keep (h : OpN w base o a1 n1 c1 a2 n2 c2) (hk : ∀ (b : Nat) (cur : Array Value) (fr : Nat × Nat), w.heap[b]? = some (.cells cur 3 fr) → w'.heap[b]? = w.heap[b]?) : OpN w' base o a1 n1 c1 a2 n2 c2 := ⟨h.i1.keep hk, h.i2.keep hk, h.ne⟩
theorem OpN.ext (h : OpN w base o a1 n1 c1 a2 n2 c2) (k : Ext w w') : OpN w' base o a1 n1 c1 a2 n2 c2 := ⟨h.i1.ext k, h.i2.ext k, h.ne⟩
theorem OpN.down (h : OpN w base o a1 n1 c1 a2 n2 c2) (hb : base' ≤ base) : OpN w base' o a1 n1 c1 a2 n2 c2 := ⟨h.i1.down hb, h.i2.down hb, h.ne⟩
theorem OpN.opO (h : OpN w base o a1 n1 c1 a2 n2 c2) : OpO w o a1 n1 c1 a2 n2 c2 := by
  obtain ⟨p1, p2, p3, p4⟩ := h.i1.ints
  obtain ⟨q1, q2, q3, q4⟩ := h.i2.ints
  exact ⟨⟨p3, p1, by unfold maxLen at p2; omega, q3, q1, by unfold maxLen at q2; omega⟩, p4, q4⟩
end

/-- Among the first m cells no two lead into one block. -/
def SepF (m : Nat) (f : Nat → Option Value) : Prop := ∀ i j k u v, i < m → j < m → f i = some u → f j = some v → u.ownBlock = some k → v.ownBlock = some k → i = j
/-- Operations, cell by cell. -/
def RowF (w : World) (base : Nat) (f : Nat → Option Value) (ops : List Gop) : Prop :=
  ∀ t g, ops[t]? = some g → ∃ (a1 : Option Addr) (n1 c1 : Nat) (a2 : Option Addr) (n2 c2 : Nat),
    f (t * 6) = some (.int .i64 g.kind) ∧ f (t * 6 + 1) = some (.int .i64 g.k) ∧ f (t * 6 + 2) = some (.slice a1 n1 c1) ∧ f (t * 6 + 3) = some (.int .i64 g.q) ∧ f (t * 6 + 4) = some (.int .i64 g.bit) ∧ f (t * 6 + 5) = some (.slice a2 n2 c2) ∧ OpN w base g a1 n1 c1 a2 n2 c2
section
variable {w w' : World} {base base' : Nat} {f f' : Nat → Option Value} {ops : List Gop}
theorem RowF.map (h : RowF w base f ops) (hk : ∀ g a1 n1 c1 a2 n2 c2, OpN w base g a1 n1 c1 a2 n2 c2 → OpN w' base' g a1 n1 c1 a2 n2 c2) : RowF w' base' f ops := fun t g hg => by
  obtain ⟨a1, n1, c1, a2, n2, c2, e0, e1, e2, e3, e4, e5, e6⟩ := h t g hg
  exact ⟨a1, n1, c1, a2, n2, c2, e0, e1, e2, e3, e4, e5, hk _ _ _ _ _ _ _ e6⟩
theorem RowF.congr (h : RowF w base f ops) (he : ∀ i, i < ops.length * 6 → f' i = f i) : RowF w base f' ops := fun t g hg => by
  obtain ⟨a1, n1, c1, a2, n2, c2, e0, e1, e2, e3, e4, e5, e6⟩ := h t g hg
  have ht := (List.getElem?_eq_some_iff.1 hg).1
  exact ⟨a1, n1, c1, a2, n2, c2, (he _ (by omega)).trans e0, (he _ (by omega)).trans e1, (he _ (by omega)).trans e2, (he _ (by omega)).trans e3, (he _ (by omega)).trans e4, (he _ (by omega)).trans e5, e6⟩
theorem SepF.congr {m : Nat} (h : SepF m f) (he : ∀ i, i < m → f' i = f i) : SepF m f' := fun i j k u v hi hj eu ev ku kv =>
  h i j k u v hi hj ((he i hi).symm.trans eu) ((he j hj).symm.trans ev) ku kv
theorem RowF.blocks (h : RowF w base f ops) {i : Nat} {u : Value} {k : Nat} (hi : i < ops.length * 6) (hu : f i = some u) (hk : u.ownBlock = some k) : base ≤ k ∧ k < w.heap.size ∧ ∃ cur fr, w.heap[k]? = some (.cells cur 3 fr) := by
  obtain ⟨t, r, hr, rfl⟩ : ∃ t r, r < 6 ∧ i = t * 6 + r := ⟨i / 6, i % 6, by omega, by omega⟩
  have ht : t < ops.length := by omega
  obtain ⟨a1, n1, c1, a2, n2, c2, e0, e1, e2, e3, e4, e5, e6⟩ := h t _ (List.getElem?_eq_getElem ht)
  have : r = 0 ∨ r = 1 ∨ r = 2 ∨ r = 3 ∨ r = 4 ∨ r = 5 := by omega
  rcases this with rfl | rfl | rfl | rfl | rfl | rfl
  · rw [Nat.add_zero, e0] at hu; cases hu; simp [Value.ownBlock] at hk
  · rw [e1] at hu; cases hu; simp [Value.ownBlock] at hk
  · rw [e2] at hu; cases hu; exact ⟨(e6.i1.lt k hk).1, (e6.i1.lt k hk).2, e6.i1.kind k hk⟩
  · rw [e3] at hu; cases hu; simp [Value.ownBlock] at hk
  · rw [e4] at hu; cases hu; simp [Value.ownBlock] at hk
  · rw [e5] at hu; cases hu; exact ⟨(e6.i2.lt k hk).1, (e6.i2.lt k hk).2, e6.i2.kind k hk⟩
end

/-- Operations in a row of the call's own, their lists each in a block of its own; xs are the row's cells. -/
structure OpsX (w : World) (base : Nat) (v : Value) (ops : List Gop) (xs : List Value) : Prop where
  own : w.ownsRow base 60 6 v ops.length xs
  sep : SepF (ops.length * 6) (fun i => xs[i]?)
  row : RowF w base (fun i => xs[i]?) ops
def OpsN (w : World) (base : Nat) (v : Value) (ops : List Gop) : Prop := ∃ xs, OpsX w base v ops xs
section
variable {w w' : World} {base base' : Nat} {v : Value} {ops : List Gop} {xs : List Value}
theorem OpsX.nil (w : World) (base : Nat) : OpsX w base (.slice none 0 0) [] [] := ⟨⟨rfl, Or.inl ⟨rfl, rfl⟩⟩, fun i j k u v hi => by simp at hi, fun t g h => by simp at h⟩
theorem OpsN.nil (w : World) (base : Nat) : OpsN w base (.slice none 0 0) [] := ⟨[], OpsX.nil w base⟩
theorem OpsX.ext (h : OpsX w base v ops xs) (k : Ext w w') : OpsX w' base v ops xs :=
  ⟨own_keep h.own (fun g _ _ hg => k.block g (Array.getElem?_eq_some_iff.1 hg).1), h.sep, h.row.map fun _ _ _ _ _ _ _ o => o.ext k⟩
theorem OpsN.ext (h : OpsN w base v ops) (k : Ext w w') : OpsN w' base v ops := h.elim fun _ hx => ⟨_, hx.ext k⟩
theorem own_keep3 {e : TypeId} {size n : Nat} (h : w.ownsRow base e size v n xs) (hk : ∀ g, v.ownBlock = some g → w'.heap[g]? = w.heap[g]?) : w'.ownsRow base e size v n xs := by
  refine ⟨h.1, ?_⟩
  rcases h.2 with h | ⟨g, cap, cur, hv, hb, hg, rest⟩
  · exact Or.inl h
  · exact Or.inr ⟨g, cap, cur, hv, hb, (hk g (by rw [hv]; rfl)).trans hg, rest⟩
theorem OpsX.keep (h : OpsX w base v ops xs) (hv : ∀ g, v.ownBlock = some g → w'.heap[g]? = w.heap[g]?) (hk : ∀ (b : Nat) (cur : Array Value) (fr : Nat × Nat), w.heap[b]? = some (.cells cur 3 fr) → w'.heap[b]? = w.heap[b]?) : OpsX w' base v ops xs :=
  ⟨own_keep3 h.own hv, h.sep, h.row.map fun _ _ _ _ _ _ _ o => o.keep hk⟩
/-- A block of another kind is written. -/
theorem OpsX.far {k : Nat} {cs : Array Value} {T : TypeId} {fr : Nat × Nat} (h : OpsX w base v ops xs) (hk : w.heap[k]? = some (.cells cs T fr)) (hT : T ≠ 3) (hT2 : T ≠ 60) (hO : Only k w w') : OpsX w' base v ops xs := by
  refine h.keep (fun g hg => hO.block g (fun e => ?_)) (only_ints hk hT hO)
  obtain ⟨_, cs', fr', e2⟩ := PtKind h.own g hg
  rw [e, hk] at e2
  cases e2
  exact hT2 rfl
theorem OpsN.far {k : Nat} {cs : Array Value} {T : TypeId} {fr : Nat × Nat} (h : OpsN w base v ops) (hk : w.heap[k]? = some (.cells cs T fr)) (hT : T ≠ 3) (hT2 : T ≠ 60) (hO : Only k w w') : OpsN w' base v ops := h.elim fun _ hx => ⟨_, hx.far hk hT hT2 hO⟩
/-- An older block is written, not of ints. -/
theorem OpsX.only {k : Nat} {cs : Array Value} {T : TypeId} {fr : Nat × Nat} (h : OpsX w base v ops xs) (hk : w.heap[k]? = some (.cells cs T fr)) (hT : T ≠ 3) (hO : Only k w w') (hb : k < base) : OpsX w' base v ops xs :=
  h.keep (fun g hg => hO.block g (by have := (PtKind h.own g hg).1; omega)) (only_ints hk hT hO)
theorem OpsN.only {k : Nat} {cs : Array Value} {T : TypeId} {fr : Nat × Nat} (h : OpsN w base v ops) (hk : w.heap[k]? = some (.cells cs T fr)) (hT : T ≠ 3) (hO : Only k w w') (hb : k < base) : OpsN w' base v ops := h.elim fun _ hx => ⟨_, hx.only hk hT hO hb⟩
theorem OpsN.down (h : OpsN w base v ops) (hb : base' ≤ base) : OpsN w base' v ops := by
  obtain ⟨xs, h⟩ := h
  refine ⟨xs, ⟨⟨h.own.1, ?_⟩, h.sep, h.row.map fun _ _ _ _ _ _ _ o => o.down hb⟩⟩
  rcases h.own.2 with h | ⟨g, cap, cur, hv, hbg, rest⟩
  · exact Or.inl h
  · exact Or.inr ⟨g, cap, cur, hv, by omega, rest⟩
theorem OpsN.o (h : OpsN w base v ops) : OpsO w base v ops := by
  obtain ⟨xs, h⟩ := h
  refine ⟨xs, h.own, fun t g hg => ?_⟩
  obtain ⟨a1, n1, c1, a2, n2, c2, e0, e1, e2, e3, e4, e5, e6⟩ := h.row t g hg
  exact ⟨a1, n1, c1, a2, n2, c2, e0, e1, e2, e3, e4, e5, e6.opO⟩
/-- What is named: where it lies, how much there is, all of it there. -/
theorem OpsN.at {a : Option Addr} {n c : Nat} (h : OpsN w base (.slice a n c) ops) : ops.length = n ∧ n ≤ c ∧ c ≤ 9223372036854775807 ∧ OpsAt w a n ops := by
  obtain ⟨a9, c9, ev9, h1, h2, h3⟩ := h.o.at
  injection ev9 with ea en ec
  subst ea; subst ec; subst en
  exact ⟨rfl, h1, by unfold maxLen at h2; omega, h3⟩
theorem OpsX.old (h : OpsX w base v ops xs) : ∀ (i : Nat) (u : Value) (k : Nat), xs[i]? = some u → u.ownBlock = some k → k < w.heap.size := fun i u k hu hk => by
  have hi : i < ops.length * 6 := by rw [← h.own.1]; exact (List.getElem?_eq_some_iff.1 hu).1
  exact (h.row.blocks hi hu hk).2.1
end
theorem six_block {k0 k1 : Int} {a1 : Option Addr} {n1 c1 : Nat} {k3 k4 : Int} {a2 : Option Addr} {n2 c2 : Nat} {j k : Nat} {u : Value} (hu : ([.int .i64 k0, .int .i64 k1, .slice a1 n1 c1, .int .i64 k3, .int .i64 k4, .slice a2 n2 c2] : List Value)[j]? = some u) (hk : u.ownBlock = some k) :
    (j = 2 ∧ (Value.slice a1 n1 c1).ownBlock = some k) ∨ (j = 5 ∧ (Value.slice a2 n2 c2).ownBlock = some k) := by
  match j, hu with
  | 0, hu => simp at hu; subst hu; simp [Value.ownBlock] at hk
  | 1, hu => simp at hu; subst hu; simp [Value.ownBlock] at hk
  | 2, hu => simp at hu; subst hu; exact Or.inl ⟨rfl, hk⟩
  | 3, hu => simp at hu; subst hu; simp [Value.ownBlock] at hk
  | 4, hu => simp at hu; subst hu; simp [Value.ownBlock] at hk
  | 5, hu => simp at hu; subst hu; exact Or.inr ⟨rfl, hk⟩
  | n + 6, hu => simp at hu
/-- One more behind them, its lists in blocks that are newer. -/
theorem OpsX.snoc {w w' : World} {base B : Nat} {v v' : Value} {ops : List Gop} {xs : List Value} {g : Gop} {a1 : Option Addr} {n1 c1 : Nat} {a2 : Option Addr} {n2 c2 : Nat} (h : OpsX w base v ops xs)
    (h1 : w'.ownsRow base 60 6 v' (ops.length + 1) (xs ++ [.int .i64 g.kind, .int .i64 g.k, .slice a1 n1 c1, .int .i64 g.q, .int .i64 g.bit, .slice a2 n2 c2]))
    (hk : ∀ (b : Nat) (cur : Array Value) (fr : Nat × Nat), w.heap[b]? = some (.cells cur 3 fr) → w'.heap[b]? = w.heap[b]?)
    (hB : ∀ (i : Nat) (u : Value) (k : Nat), xs[i]? = some u → u.ownBlock = some k → k < B) (hb : base ≤ B) (hO : OpN w' B g a1 n1 c1 a2 n2 c2) :
    OpsX w' base v' (ops ++ [g]) (xs ++ [.int .i64 g.kind, .int .i64 g.k, .slice a1 n1 c1, .int .i64 g.q, .int .i64 g.bit, .slice a2 n2 c2]) := by
  have hx : xs.length = ops.length * 6 := h.own.1
  have hl : (ops ++ [g]).length = ops.length + 1 := by simp
  have hr : ∀ j, (xs ++ [.int .i64 g.kind, .int .i64 g.k, .slice a1 n1 c1, .int .i64 g.q, .int .i64 g.bit, .slice a2 n2 c2])[ops.length * 6 + j]? = ([.int .i64 g.kind, .int .i64 g.k, .slice a1 n1 c1, .int .i64 g.q, .int .i64 g.bit, .slice a2 n2 c2] : List Value)[j]? := fun j => by
    rw [List.getElem?_append_right (by omega), hx, Nat.add_sub_cancel_left]
  have hlft : ∀ i, i < ops.length * 6 → (xs ++ [.int .i64 g.kind, .int .i64 g.k, .slice a1 n1 c1, .int .i64 g.q, .int .i64 g.bit, .slice a2 n2 c2])[i]? = xs[i]? := fun i hi => List.getElem?_append_left (by omega)
  refine ⟨by rw [hl]; exact h1, ?_, ?_⟩
  · rw [hl]
    intro i j k u v hi hj eu ev ku kv
    simp only at eu ev
    have key : ∀ p q x y, p < ops.length * 6 → ops.length * 6 ≤ q → (xs ++ [.int .i64 g.kind, .int .i64 g.k, .slice a1 n1 c1, .int .i64 g.q, .int .i64 g.bit, .slice a2 n2 c2])[p]? = some x → (xs ++ [.int .i64 g.kind, .int .i64 g.k, .slice a1 n1 c1, .int .i64 g.q, .int .i64 g.bit, .slice a2 n2 c2])[q]? = some y → x.ownBlock = some k → y.ownBlock = some k → False := by
      intro p q x y hp hq ex ey kx ky
      rw [hlft p hp] at ex
      have h1 := hB p x k ex kx
      obtain ⟨r, rfl⟩ : ∃ r, q = ops.length * 6 + r := ⟨q - ops.length * 6, by omega⟩
      rw [hr] at ey
      rcases six_block ey ky with ⟨_, e⟩ | ⟨_, e⟩
      · have := (hO.i1.lt k e).1; omega
      · have := (hO.i2.lt k e).1; omega
    by_cases h1 : i < ops.length * 6
    · by_cases h2 : j < ops.length * 6
      · exact h.sep i j k u v h1 h2 (by rw [hlft i h1] at eu; exact eu) (by rw [hlft j h2] at ev; exact ev) ku kv
      · exact (key i j u v h1 (by omega) eu ev ku kv).elim
    · by_cases h2 : j < ops.length * 6
      · exact (key j i v u h2 (by omega) ev eu kv ku).elim
      · obtain ⟨r, rfl⟩ : ∃ r, i = ops.length * 6 + r := ⟨i - ops.length * 6, by omega⟩
        obtain ⟨s, rfl⟩ : ∃ s, j = ops.length * 6 + s := ⟨j - ops.length * 6, by omega⟩
        rw [hr] at eu ev
        rcases six_block eu ku with ⟨e1, f1⟩ | ⟨e1, f1⟩ <;> rcases six_block ev kv with ⟨e2, f2⟩ | ⟨e2, f2⟩
        · omega
        · exact absurd f2 (hO.ne k f1)
        · exact absurd f1 (hO.ne k f2)
        · omega
  · intro t gg hgg
    have ht := (List.getElem?_eq_some_iff.1 hgg).1
    rw [hl] at ht
    by_cases e : t = ops.length
    · subst e
      rw [List.getElem?_append_right (Nat.le_refl _), Nat.sub_self] at hgg
      cases hgg
      exact ⟨a1, n1, c1, a2, n2, c2, hr 0, hr 1, hr 2, hr 3, hr 4, hr 5, hO.down hb⟩
    · rw [List.getElem?_append_left (by omega)] at hgg
      obtain ⟨b1, m1, d1, b2, m2, d2, e0, e1, e2, e3, e4, e5, e6⟩ := h.row t gg hgg
      exact ⟨b1, m1, d1, b2, m2, d2, (hlft _ (by omega)).trans e0, (hlft _ (by omega)).trans e1, (hlft _ (by omega)).trans e2, (hlft _ (by omega)).trans e3, (hlft _ (by omega)).trans e4, (hlft _ (by omega)).trans e5, e6.keep hk⟩

/-- The row itself: its block and the cells in it. -/
theorem opsN_open {w : World} {base : Nat} {a : Option Addr} {n c : Nat} {ops : List Gop} (h : OpsN w base (.slice a n c) ops) (hn : 0 < n) :
    ops.length = n ∧ ∃ g cur, a = some ⟨g, 0, none⟩ ∧ base ≤ g ∧ w.heap[g]? = some (.cells cur 60 (0, 0)) ∧ n ≤ c ∧ c ≤ maxLen ∧ cur.size = c * 6 ∧ SepF (n * 6) (fun i => cur[i]?) ∧ RowF w base (fun i => cur[i]?) ops := by
  obtain ⟨xs, h⟩ := h
  rcases h.own.2 with ⟨e, h0⟩ | ⟨g, cap, cur, hv, hb, hg, hnc, hcm, hsz, htk⟩
  · injection e with _ e2 _; omega
  · injection hv with e1 e2 e3
    subst e1; subst e3
    have hc : ∀ j, j < ops.length * 6 → cur[j]? = xs[j]? := by
      intro j hj
      rw [← htk, List.getElem?_take, if_pos hj, Array.getElem?_toList]
    refine ⟨e2.symm, g, cur, rfl, hb, hg, by omega, hcm, hsz, ?_, h.row.congr hc⟩
    rw [e2]
    exact h.sep.congr hc
theorem opsN_close {w : World} {base g n c : Nat} {cur : Array Value} {ops : List Gop} (hl : ops.length = n) (hb : base ≤ g) (hg : w.heap[g]? = some (.cells cur 60 (0, 0))) (hnc : n ≤ c) (hcm : c ≤ maxLen) (hsz : cur.size = c * 6) (hS : SepF (n * 6) (fun i => cur[i]?)) (h : RowF w base (fun i => cur[i]?) ops) :
    OpsN w base (.slice (some ⟨g, 0, none⟩) n c) ops := by
  have hc : ∀ j, j < ops.length * 6 → (cur.toList.take (n * 6))[j]? = cur[j]? := by
    intro j hj
    rw [List.getElem?_take, if_pos (by omega), Array.getElem?_toList]
  refine ⟨cur.toList.take (n * 6), ⟨by rw [List.length_take, Array.length_toList, hsz, hl]; omega, Or.inr ⟨g, c, cur, by rw [hl], hb, hg, by omega, hcm, hsz, by rw [hl]⟩⟩, ?_, h.congr hc⟩
  rw [hl]
  exact hS.congr fun i hi => hc i (by omega)

end Go.Proofs.YtfjnlopbmkimiaaGreatDoor
namespace Go.Proofs.YtfjnlopbmkimiaaGreatDoor
open Go.RowKit

set_option maxHeartbeats 2000000 in
theorem copyInts_own (ao : Option Addr) (n c : Nat) (l : List Int) (w : World) (h : IntsAt w ao n l) (hb : n * 8 ≤ 140737488355328) :
    Calls Tryz.prog 49 #[.slice ao n c] w fun e w' => (∃ (a' : Option Addr) (c' : Nat), e = .returned (.slice a' n c') ∧ Iow w' w.heap.size a' n c' l) ∧ Ext w w' := by
  obtain ⟨i0, hi, hz0, hz1, hz2⟩ := info_parts i_info
  have Hl := Lib.hid h.1
  have H := Lib.hid h
  clear h
  go_enter Tryz.func49, Tryz.ntmps49
  go_wp2_with fail
  go_loopg [3, 4] n (fun k s3 s4 wr => Ext w wr ∧ ∃ i : Nat, s4 = .int .i64 (i : Int) ∧ i ≤ n ∧ n - i = k ∧ wr.ownsRow w.heap.size 3 1 s3 i (iC (l.take i)))
  case atStart => exact ⟨Ext.refl _, 0, rfl, by omega, by omega, ⟨rfl, Or.inl ⟨rfl, rfl⟩⟩⟩
  case round =>
    obtain ⟨hER, i, rfl, hi', hk, hown⟩ := hrel
    have HER := Lib.hid hER; have Hown := Lib.hid hown
    clear hER hown
    by_cases hin : i = n
    · have h2 : ¬ (i : Int) < (n : Int) := by omega
      have ho := Hown.out
      rw [List.take_of_length_le (by rw [Hl.out]; omega), hin] at ho
      obtain ⟨a', c', e, e1⟩ := io_of_own ho
      subst e
      have HI := Lib.hid e1
      clear ho e1 Hown
      go_wp2_with fail
      go_ret
      exact ⟨⟨a', c', rfl, HI.out⟩, HER.out⟩
    · have h2 : (i : Int) < (n : Int) := by omega
      have h0 : (0 : Int) ≤ (i : Int) := by omega
      obtain ⟨b, o, rfl, hbl, hcell⟩ := (H.out.ext HER.out).at (by omega)
      have hci := hcell i (by omega)
      obtain ⟨y, hy⟩ : ∃ y, l.getD i 0 = y := ⟨_, rfl⟩
      rw [hy] at hci
      have hst : iC (l.take (i + 1)) = iC (l.take i) ++ [.int .i64 y] := by
        rw [← hy, List.take_add_one, List.getElem?_eq_getElem (by rw [Hl.out]; omega), ← iC_snoc, List.getD_eq_getElem?_getD, List.getElem?_eq_getElem (by rw [Hl.out]; omega)]
        rfl
      have Hst := Lib.hid hst
      clear hcell hy hst hbl
      go_wp2_with (at_builtin; refine wpList_append_own _ rfl _ _ 25 rfl w.heap.size 3 i0 (.int .i64 0) 1 8 Tryz.underlying25 hi hz0 hz1 hz2 rfl (by decide) _ i (iC (l.take i)) rfl (Hown.out.alloc _) ⟨wr.heap.size, 0, none⟩ 1 1 [.int .i64 y] rfl rfl (new_i wr y _) (one_i y) (by unfold maxLen; omega) (by omega) (Nat.le_trans HER.out.size (ext_al wr _).size) ?_; intro v' w7 hown' hgrow' _)
      go_roundg (n - (i + 1))
      case measure => omega
      case rel => exact ⟨grown_ext (HER.out.trans (ext_al wr _)) hgrow' (fun k hk => (own_lt Hown.out k hk).1), i + 1, by go_num, by omega, rfl, by rw [Hst.out]; exact hown'⟩

set_option maxHeartbeats 2000000 in
set_option maxRecDepth 100000 in
theorem copyOp_N (o : Gop) (a1 : Option Addr) (n1 c1 : Nat) (a2 : Option Addr) (n2 c2 : Nat) (w : World) (h : OpL w o a1 n1 c1 a2 n2 c2) (hb1 : n1 * 8 ≤ 140737488355328) (hb2 : n2 * 8 ≤ 140737488355328) :
    Calls Tryz.prog 22 #[.agg #[.int .i64 o.kind, .int .i64 o.k, .slice a1 n1 c1, .int .i64 o.q, .int .i64 o.bit, .slice a2 n2 c2]] w fun e w' => (∃ (a1' : Option Addr) (c1' : Nat) (a2' : Option Addr) (c2' : Nat), e = .returned (.agg #[.int .i64 o.kind, .int .i64 o.k, .slice a1' n1 c1', .int .i64 o.q, .int .i64 o.bit, .slice a2' n2 c2']) ∧ OpN w' w.heap.size o a1' n1 c1' a2' n2 c2') ∧ Ext w w' := by
  obtain ⟨kd, k, ctl, q, bt, cnd⟩ := o
  have E0 := (ext_al w (.cells #[.int .i64 kd, .int .i64 k, .slice a1 n1 c1, .int .i64 q, .int .i64 bt, .slice a2 n2 c2] 60)).trans (ext_al _ (.cells #[.int .i64 0, .int .i64 0, .slice none 0 0, .int .i64 0, .int .i64 0, .slice none 0 0] 60))
  have bx := (opbx_new w kd k a1 n1 c1 q bt a2 n2 c2).ext (ext_al _ (.cells #[.int .i64 0, .int .i64 0, .slice none 0 0, .int .i64 0, .int .i64 0, .slice none 0 0] 60))
  have br := opbx_new (w.alloc (.cells #[.int .i64 kd, .int .i64 k, .slice a1 n1 c1, .int .i64 q, .int .i64 bt, .slice a2 n2 c2] 60)) 0 0 none 0 0 0 0 none 0 0
  rw [show (w.alloc (.cells #[.int .i64 kd, .int .i64 k, .slice a1 n1 c1, .int .i64 q, .int .i64 bt, .slice a2 n2 c2] 60)).heap.size = w.heap.size + 1 from by simp] at br
  have HE0 := Lib.hid E0; have HL := Lib.hid (h.ext E0); have H0 := Lib.hid h; have Hbx := Lib.hid bx; have Hbr := Lib.hid br
  have m2 := bx.x2
  simp only
  clear h E0 bx br
  go_enter Tryz.func22, Tryz.ntmps22
  go_wp2_with fail
  generalize (w.alloc (.cells #[.int .i64 kd, .int .i64 k, .slice a1 n1 c1, .int .i64 q, .int .i64 bt, .slice a2 n2 c2] 60)).alloc (.cells #[.int .i64 0, .int .i64 0, .slice none 0 0, .int .i64 0, .int .i64 0, .slice none 0 0] 60) = W0 at *
  clear m2
  refine (copyInts_own a1 n1 c1 ctl W0 HL.out.i1 hb1).mono ?_
  rintro e w1 ⟨⟨a3, c3, rfl, I3⟩, hx1⟩
  have b1 := Hbx.out.ext hx1
  have y2 := b1.x2; have y5 := b1.x5; have f2 := b1.f 2
  have b2 := b1.set2 a3 n1 c3
  have hk1 := only_ints b1.row (by decide) (only1 w1 w.heap.size 2 (.slice a3 n1 c3))
  have I4 := I3.keep hk1
  have Hlt := Lib.hid (fun k hk => (I4.lt k hk).2)
  have HW0 := Lib.hid HE0.out.size
  have HE1 := Lib.hid (p := Ext w _) (Below.setCell (HE0.out.trans hx1) (p := ⟨w.heap.size, 2, none⟩) (Nat.le_refl _) (.slice a3 n1 c3))
  have br2 : OpBx (w1.setCell ⟨w.heap.size, 2, none⟩ (.slice a3 n1 c3)) (w.heap.size + 1) 0 0 none 0 0 0 0 none 0 0 := ⟨((only1 w1 w.heap.size 2 (.slice a3 n1 c3)).block _ (by omega)).trans (Hbr.out.ext hx1).row⟩
  have J2 := H0.out.i2.ext HE1.out
  have z5 := b2.x5
  have Hb2 := Lib.hid b2; have Hbr2 := Lib.hid br2; have HI4 := Lib.hid I4; have HJ2 := Lib.hid J2
  have HW2 := Lib.hid (HE1.out.size)
  clear b1 b2 br2 I3 I4 J2 hk1 HL
  go_wp2_with fail
  generalize w1.setCell ⟨w.heap.size, 2, none⟩ (.slice a3 n1 c3) = W2 at *
  clear y2 y5 f2 z5
  refine (copyInts_own a2 n2 c2 cnd W2 HJ2.out hb2).mono ?_
  rintro e w3 ⟨⟨a5, c5, rfl, I5⟩, hx3⟩
  have b3 := Hb2.out.ext hx3
  have y5 := b3.x5; have f5 := b3.f 5
  have b4 := b3.set5 a5 n2 c5
  have hk3 := only_ints b3.row (by decide) (only1 w3 w.heap.size 5 (.slice a5 n2 c5))
  have I6 := (HI4.out.ext hx3).keep hk3
  have I7 := I5.keep hk3
  have HE3 := Lib.hid (p := Ext w _) (Below.setCell (Ext.trans HE1.out hx3) (p := ⟨w.heap.size, 5, none⟩) (Nat.le_refl _) (.slice a5 n2 c5))
  have br4 : OpBx (w3.setCell ⟨w.heap.size, 5, none⟩ (.slice a5 n2 c5)) (w.heap.size + 1) 0 0 none 0 0 0 0 none 0 0 := ⟨((only1 w3 w.heap.size 5 (.slice a5 n2 c5)).block _ (by omega)).trans (Hbr2.out.ext hx3).row⟩
  have hk4 := only_ints br4.row (by decide) (onl6 (w3.setCell ⟨w.heap.size, 5, none⟩ (.slice a5 n2 c5)) (w.heap.size + 1) (.int .i64 kd) (.int .i64 k) (.slice a3 n1 c3) (.int .i64 q) (.int .i64 bt) (.slice a5 n2 c5))
  have HI8 := Lib.hid (I6.keep hk4); have HI9 := Lib.hid (I7.keep hk4)
  have Hne := Lib.hid (show ∀ k, (Value.slice a3 n1 c3).ownBlock = some k → (Value.slice a5 n2 c5).ownBlock ≠ some k from fun k h1 h2 => by
    have h3 := Hlt.out k h1
    have h4 := (I7.lt k h2).1
    omega)
  have p0 := b4.x0; have p1 := b4.x1; have p2 := b4.x2; have p3 := b4.x3; have p4 := b4.x4; have p5 := b4.x5
  have r0 := br4.x0; have r1 := br4.x1; have r2 := br4.x2; have r3 := br4.x3; have r4 := br4.x4; have r5 := br4.x5
  have g0 := br4.f 0; have g1 := br4.f 1; have g2 := br4.f 2; have g3 := br4.f 3; have g4 := br4.f 4; have g5 := br4.f 5
  clear b3 b4 br4 I5 I6 I7 hk3 hk4 hx3 hx1
  go_wp2_with fail
  exact bodyPost_ret (v := .agg #[.int .i64 kd, .int .i64 k, .slice a3 n1 c3, .int .i64 q, .int .i64 bt, .slice a5 n2 c5]) (by simp [results, Tryz.results22, go_sem, r0, r1, r2, r3, r4, r5]) rfl ⟨⟨a3, c3, a5, c5, rfl, ⟨HI8.out.down (by have := HW0.out; omega), HI9.out.down (by have := HW2.out; omega), Hne.out⟩⟩, put6 HE3.out (by omega) _ _ _ _ _ _⟩

set_option maxHeartbeats 4000000 in
set_option maxRecDepth 100000 in
theorem ccopyOp_N (o : Gop) (a1 : Option Addr) (n1 c1 : Nat) (a2 : Option Addr) (n2 c2 : Nat) (w : World) (h : OpL w o a1 n1 c1 a2 n2 c2) (hb1 : n1 * 8 ≤ 140737488355328) (hb2 : n2 * 8 ≤ 140737488355328) :
    Calls Tryz.prog 76 #[.agg #[.int .i64 o.kind, .int .i64 o.k, .slice a1 n1 c1, .int .i64 o.q, .int .i64 o.bit, .slice a2 n2 c2]] w fun e w' => (∃ (a1' : Option Addr) (c1' : Nat) (a2' : Option Addr) (c2' : Nat), e = .returned (.agg #[.int .i64 o.kind, .int .i64 o.k, .slice a1' n1 c1', .int .i64 o.q, .int .i64 o.bit, .slice a2' n2 c2']) ∧ OpN w' w.heap.size o a1' n1 c1' a2' n2 c2') ∧ Ext w w' := by
  obtain ⟨kd, k, ctl, q, bt, cnd⟩ := o
  have E0 := (ext_al w (.cells #[.int .i64 kd, .int .i64 k, .slice a1 n1 c1, .int .i64 q, .int .i64 bt, .slice a2 n2 c2] 60)).trans (ext_al _ (.cells #[.int .i64 0, .int .i64 0, .slice none 0 0, .int .i64 0, .int .i64 0, .slice none 0 0] 60))
  have bx := (opbx_new w kd k a1 n1 c1 q bt a2 n2 c2).ext (ext_al _ (.cells #[.int .i64 0, .int .i64 0, .slice none 0 0, .int .i64 0, .int .i64 0, .slice none 0 0] 60))
  have br := opbx_new (w.alloc (.cells #[.int .i64 kd, .int .i64 k, .slice a1 n1 c1, .int .i64 q, .int .i64 bt, .slice a2 n2 c2] 60)) 0 0 none 0 0 0 0 none 0 0
  rw [show (w.alloc (.cells #[.int .i64 kd, .int .i64 k, .slice a1 n1 c1, .int .i64 q, .int .i64 bt, .slice a2 n2 c2] 60)).heap.size = w.heap.size + 1 from by simp] at br
  have HE0 := Lib.hid E0; have HL := Lib.hid (h.ext E0); have Hbx := Lib.hid bx; have Hbr := Lib.hid br
  simp only
  clear h E0 bx br
  go_enter Tryz.func76, Tryz.ntmps76
  go_upto_region 1 with fail
  generalize (w.alloc (.cells #[.int .i64 kd, .int .i64 k, .slice a1 n1 c1, .int .i64 q, .int .i64 bt, .slice a2 n2 c2] 60)).alloc (.cells #[.int .i64 0, .int .i64 0, .slice none 0 0, .int .i64 0, .int .i64 0, .slice none 0 0] 60) = W0 at *
  have hd0 : Ext W0 W0.drew := Below.drew (Ext.refl _)
  have HC1 := Lib.hid (fun wx (hx : Ext W0 wx) => copyList_any a1 n1 c1 ctl wx (HL.out.i1.ext hx) hb1)
  have HC2 := Lib.hid (fun wx (hx : Ext W0 wx) => copyList_any a2 n2 c2 cnd wx (HL.out.i2.ext hx) hb2)
  have v2 := Hbx.out.x2; have v5 := Hbx.out.x5
  refine wp_region_K 7 (fun w' => w'.cell? ⟨w.heap.size, 2, none⟩ = some (.slice a1 n1 c1) ∧ w'.cell? ⟨w.heap.size, 5, none⟩ = some (.slice a2 n2 c2)) (by kernel_rfl) ?_
  show anyK _ _ _ _ _ _ 10 #[false, false, false, false, false, false, false, false, false, false] _ _
  have hHeld : W0.drew.cell? ⟨w.heap.size, 2, none⟩ = some (.slice a1 n1 c1) ∧ W0.drew.cell? ⟨w.heap.size, 5, none⟩ = some (.slice a2 n2 c2) := ⟨v2, v5⟩
  refine anyK_take (i := 0) (v := ?_) rfl (by kernel_rfl) (by kernel_rfl) (by kernel_rfl) (N := 10) (by kernel_rfl) (by kernel_rfl) (by kernel_rfl) (fun _ _ _ h => h) (Or.inl ⟨by rfl, ?_⟩) hHeld ?_
  rotate_left 1
  · intro w hSw
    go_simp
    try with_reducible rfl
  show anyK _ _ _ _ _ _ _ _ (Act.put _ (some 3) _) _
  simp only [Act.put, List.setIfInBounds_toArray, List.set_cons_zero, List.set_cons_succ]
  refine anyK_take (i := 1) (v := ?_) rfl (by kernel_rfl) (by kernel_rfl) (by kernel_rfl) (N := 10) (by kernel_rfl) (by kernel_rfl) (by kernel_rfl) (fun _ _ _ h => h) (Or.inl ⟨by rfl, ?_⟩) hHeld ?_
  rotate_left 1
  · intro w hSw
    go_simp
    try with_reducible rfl
  show anyK _ _ _ _ _ _ _ _ (Act.put _ (some 4) _) _
  simp only [Act.put, List.setIfInBounds_toArray, List.set_cons_zero, List.set_cons_succ]
  refine anyK_take (i := 3) (v := ?_) rfl (by kernel_rfl) (by kernel_rfl) (by kernel_rfl) (N := 10) (by kernel_rfl) (by kernel_rfl) (by kernel_rfl) (fun _ _ _ h => h) (Or.inl ⟨by rfl, ?_⟩) hHeld ?_
  rotate_left 1
  · intro w hSw
    go_simp
    try with_reducible rfl
  show anyK _ _ _ _ _ _ _ _ (Act.put _ (some 6) _) _
  simp only [Act.put, List.setIfInBounds_toArray, List.set_cons_zero, List.set_cons_succ]
  refine anyK_take (i := 4) (v := ?_) rfl (by kernel_rfl) (by kernel_rfl) (by kernel_rfl) (N := 10) (by kernel_rfl) (by kernel_rfl) (by kernel_rfl) (fun _ _ _ h => h) (Or.inl ⟨by rfl, ?_⟩) hHeld ?_
  rotate_left 1
  · intro w hSw
    go_simp
    try with_reducible rfl
  show anyK _ _ _ _ _ _ _ _ (Act.put _ (some 7) _) _
  simp only [Act.put, List.setIfInBounds_toArray, List.set_cons_zero, List.set_cons_succ]
  clear hHeld
  refine anyK_one (i := 2) (by kernel_rfl) rfl (fun Kk hKk => ?_)
  go_simp
  (go_at_call 110; refine (HC1.out _ hd0).mono ?_; rintro e w4 ⟨v', rfl, hown1, hx4⟩)
  obtain ⟨a3, c3, rfl, I3⟩ := io_of_own hown1
  have hx4' := hd0.trans hx4
  have b4 := Hbx.out.ext hx4'
  have x2 := b4.x2; have x5 := b4.x5
  go_wp2_with fail
  refine hKk.out _ _ (fun _ => ⟨x2, x5⟩) ?_
  clear hKk Kk
  simp only [List.setIfInBounds_toArray, List.set_cons_zero, List.set_cons_succ]
  have hHeld : w4.cell? ⟨w.heap.size, 2, none⟩ = some (.slice a1 n1 c1) ∧ w4.cell? ⟨w.heap.size, 5, none⟩ = some (.slice a2 n2 c2) := ⟨x2, x5⟩
  refine anyK_take (i := 6) (v := ?_) rfl (by kernel_rfl) (by kernel_rfl) (by kernel_rfl) (N := 10) (by kernel_rfl) (by kernel_rfl) (by kernel_rfl) (fun _ _ _ h => h) (Or.inl ⟨by rfl, ?_⟩) hHeld ?_
  rotate_left 1
  · intro w hSw
    go_simp
    try with_reducible rfl
  show anyK _ _ _ _ _ _ _ _ (Act.put _ (some 9) _) _
  simp only [Act.put, List.setIfInBounds_toArray, List.set_cons_zero, List.set_cons_succ]
  clear hHeld
  refine anyK_one (i := 5) (by kernel_rfl) rfl (fun Kk hKk => ?_)
  go_simp
  (have _ := hx4; go_at_call 110; refine (HC2.out _ hx4').mono ?_; rintro e w5 ⟨v'', rfl, hown2, hx5⟩)
  obtain ⟨a5, c5, rfl, I5⟩ := io_of_own hown2
  have Hne := Lib.hid (show ∀ k, (Value.slice a3 n1 c3).ownBlock = some k → (Value.slice a5 n2 c5).ownBlock ≠ some k from fun k h1 h2 => by
    have h3 := (I3.lt k h1).2
    have h4 := (I5.lt k h2).1
    omega)
  have HW4 := Lib.hid (HE0.out.trans hx4').size; have HW0 := Lib.hid HE0.out.size
  have hx5' := hx4'.trans hx5
  have b5 := Hbx.out.ext hx5'
  have y2 := b5.x2; have y5 := b5.x5; have z2 := b5.f 2
  go_wp2_with fail
  refine hKk.out _ _ (fun _ => ⟨y2, y5⟩) ?_
  clear hKk Kk
  simp only [List.setIfInBounds_toArray, List.set_cons_zero, List.set_cons_succ]
  refine anyK_one (i := 7) (by kernel_rfl) rfl (fun Kk hKk => ?_)
  refine stepK_storeI rfl rfl _ _ rfl w.heap.size 2 a3 n1 c3 (.slice a1 n1 c1) rfl rfl y2 z2 ?_
  refine hKk.out _ _ (fun h => Bool.noConfusion (show true = false from h)) ?_
  clear hKk Kk
  simp only [List.setIfInBounds_toArray, List.set_cons_zero, List.set_cons_succ]
  have b6 := b5.set2 a3 n1 c3
  have hk1 := only_ints b5.row (by decide) (only1 w5 w.heap.size 2 (.slice a3 n1 c3))
  have I6 := (I3.ext hx5).keep hk1
  have I7 := I5.keep hk1
  have HE6 := Lib.hid (p := Ext w _) (Below.setCell (HE0.out.trans hx5') (p := ⟨w.heap.size, 2, none⟩) (Nat.le_refl _) (.slice a3 n1 c3))
  have br6 : OpBx (w5.setCell ⟨w.heap.size, 2, none⟩ (.slice a3 n1 c3)) (w.heap.size + 1) 0 0 none 0 0 0 0 none 0 0 := ⟨((only1 w5 w.heap.size 2 (.slice a3 n1 c3)).block _ (by omega)).trans (Hbr.out.ext hx5').row⟩
  have u5 := b6.x5; have s5 := b6.f 5
  clear b4 b5 x2 x5 y2 y5 z2 I3 I5 hk1 hx4 hx5 hx4' hx5' hown1 hown2 v2 v5 hd0
  generalize w5.setCell ⟨w.heap.size, 2, none⟩ (.slice a3 n1 c3) = W6 at *
  refine anyK_one (i := 8) (by kernel_rfl) rfl (fun Kk hKk => ?_)
  go_wp2_with fail
  refine hKk.out _ _ (fun h => Bool.noConfusion (show true = false from h)) ?_
  clear hKk Kk
  simp only [List.setIfInBounds_toArray, List.set_cons_zero, List.set_cons_succ]
  refine anyK_one (i := 9) (by kernel_rfl) rfl (fun Kk hKk => ?_)
  refine stepK_storeI rfl rfl _ _ rfl w.heap.size 5 a5 n2 c5 (.slice a2 n2 c2) rfl rfl u5 s5 ?_
  refine hKk.out _ _ (fun h => Bool.noConfusion (show true = false from h)) ?_
  clear hKk Kk
  simp only [List.setIfInBounds_toArray, List.set_cons_zero, List.set_cons_succ]
  refine anyK_done (by kernel_rfl) ?_ _
  have b8 := b6.set5 a5 n2 c5
  have hk3 := only_ints b6.row (by decide) (only1 W6 w.heap.size 5 (.slice a5 n2 c5))
  have I8 := I6.keep hk3
  have I9 := I7.keep hk3
  have HE8 := Lib.hid (p := Ext w _) (Below.setCell HE6.out (p := ⟨w.heap.size, 5, none⟩) (Nat.le_refl _) (.slice a5 n2 c5))
  have br8 : OpBx (W6.setCell ⟨w.heap.size, 5, none⟩ (.slice a5 n2 c5)) (w.heap.size + 1) 0 0 none 0 0 0 0 none 0 0 := ⟨((only1 W6 w.heap.size 5 (.slice a5 n2 c5)).block _ (by omega)).trans br6.row⟩
  clear b6 br6 I6 I7 hk3 u5 s5 HE6
  generalize W6.setCell ⟨w.heap.size, 5, none⟩ (.slice a5 n2 c5) = W8 at *
  have hk4 := only_ints br8.row (by decide) (onl6 W8 (w.heap.size + 1) (.int .i64 kd) (.int .i64 k) (.slice a3 n1 c3) (.int .i64 q) (.int .i64 bt) (.slice a5 n2 c5))
  have HI8 := Lib.hid (I8.keep hk4); have HI9 := Lib.hid (I9.keep hk4)
  have p0 := b8.x0; have p1 := b8.x1; have p2 := b8.x2; have p3 := b8.x3; have p4 := b8.x4; have p5 := b8.x5
  have r0 := br8.x0; have r1 := br8.x1; have r2 := br8.x2; have r3 := br8.x3; have r4 := br8.x4; have r5 := br8.x5
  have g0 := br8.f 0; have g1 := br8.f 1; have g2 := br8.f 2; have g3 := br8.f 3; have g4 := br8.f 4; have g5 := br8.f 5
  clear b8 br8 I8 I9 hk4
  go_wp2_with fail
  exact bodyPost_ret (v := .agg #[.int .i64 kd, .int .i64 k, .slice a3 n1 c3, .int .i64 q, .int .i64 bt, .slice a5 n2 c5]) (by simp [results, Tryz.results76, go_sem, r0, r1, r2, r3, r4, r5]) rfl ⟨⟨a3, c3, a5, c5, rfl, ⟨HI8.out.down (by have h1 := HW0.out; simpa using h1), HI9.out.down HW4.out, Hne.out⟩⟩, put6 HE8.out (by omega) _ _ _ _ _ _⟩

end Go.Proofs.YtfjnlopbmkimiaaGreatDoor
namespace Go.Proofs.YtfjnlopbmkimiaaGreatDoor
open Go.RowKit

theorem ext_only {w U W : World} {k : Nat} (h : Ext w U) (hO : Only k U W) (hk : w.heap.size ≤ k) : Ext w W :=
  Below.trans h ⟨hO.os, hO.tape, hO.output, Nat.le_of_eq hO.size.symm, fun i hi => hO.block i (by omega)⟩
theorem CiB.kept {w w' : World} {k g : Nat} {qb bi : Int} {ao : Option Addr} {n cp : Nat} (h : CiB w g qb bi ao n cp) (hO : Only k w w') (hk : g ≠ k) : CiB w' g qb bi ao n cp := ⟨(hO.block g hk).trans h.row⟩
theorem FtB.kept {w w' : World} {k g : Nat} {x y : Int} (h : FtB w g x y) (hO : Only k w w') (hk : g ≠ k) : FtB w' g x y := ⟨(hO.block g hk).trans h.row⟩
theorem only2 (W : World) (A : Nat) (u v : Value) : Only A W ((W.setCell ⟨A, 0, none⟩ u).setCell ⟨A, 1, none⟩ v) := ((Only.refl _ _).setCell _ _).setCell _ _
end Go.Proofs.YtfjnlopbmkimiaaGreatDoor
namespace Go.Proofs.YtfjnlopbmkimiaaGreatDoor
open Go.RowKit

/-- The fault of one circuit behind another. -/
def thnF (a b : Gci) : Int × Int :=
  if (chk a).1 ≠ 0 then chk a else if (chk b).1 ≠ 0 then chk b
  else if a.qubits ≠ b.qubits ∨ a.bits ≠ b.bits then (16, 0)
  else if 4096 < a.ops.length + b.ops.length then (2, 0) else (0, 0)

theorem nt' {a b : Int} (h : a ≠ b) : (a != b) = true := by simp [h]
theorem bf' {a b : Int} (h : a ≠ b) : (a == b) = false := by simp [h]
theorem ne_f {a b : Int} (h : a = b) : (a != b) = false := by simp [h]
theorem eq_t {a b : Int} (h : a = b) : (a == b) = true := by simp [h]
theorem thnF_zero {a b : Gci} (h : (thnF a b).1 = 0) : (chk a).1 = 0 ∧ (chk b).1 = 0 ∧ a.qubits = b.qubits ∧ a.bits = b.bits ∧ a.ops.length + b.ops.length ≤ 4096 := by
  unfold thnF at h
  by_cases h1 : (chk a).1 ≠ 0
  · rw [if_pos h1] at h; exact absurd h h1
  rw [if_neg h1] at h
  by_cases h2 : (chk b).1 ≠ 0
  · rw [if_pos h2] at h; exact absurd h h2
  rw [if_neg h2] at h
  by_cases h3 : a.qubits ≠ b.qubits ∨ a.bits ≠ b.bits
  · rw [if_pos h3] at h; exact absurd h (by decide)
  rw [if_neg h3] at h
  by_cases h4 : 4096 < a.ops.length + b.ops.length
  · rw [if_pos h4] at h; exact absurd h (by decide)
  omega
/-- A circuit and a fault are laid into two variables: a row of operations stands. -/
theorem putCF_opsN {W : World} {R F base : Nat} {v : Value} {ops : List Gop} {x y p q : Int} {a0 : Option Addr} {n0 c0 : Nat} (h : OpsN W base v ops) (hR : CiB W R x y a0 n0 c0) (hF : FtB W F p q) (hne : R ≠ F) (qb bi : Int) (ao : Option Addr) (n cp : Nat) (u w : Int) : OpsN (putCF W R F qb bi ao n cp u w) base v ops := by
  have hP1 : Only R W (((W.setCell ⟨R, 0, none⟩ (.int .i64 qb)).setCell ⟨R, 1, none⟩ (.int .i64 bi)).setCell ⟨R, 2, none⟩ (.slice ao n cp)) := (((Only.refl _ _).setCell _ _).setCell _ _).setCell _ _
  exact (h.far hR.row (by decide) (by decide) hP1).far (hF.kept hP1 (fun e => hne e.symm)).row (by decide) (by decide) (only2 _ F _ _)

end Go.Proofs.YtfjnlopbmkimiaaGreatDoor
namespace Go.Proofs.YtfjnlopbmkimiaaGreatDoor
open Go.RowKit

set_option maxHeartbeats 2000000 in
set_option maxRecDepth 100000 in
theorem grow0_any (m : Nat) (w : World) (hm : m ≤ 10000) : Calls Tryz.prog 79 #[.slice none 0 0, .int .i64 (m : Int)] w fun e w' => ∃ v', e = .returned v' ∧ w'.ownsRow w.heap.size 60 6 v' 0 [] ∧ Ext w w' := by
  obtain ⟨i0, hi, hz0, hz1, hz2⟩ := info_parts op_info
  by_cases h0 : m = 0
  · subst h0
    go_enter Tryz.func79, Tryz.ntmps79
    go_wp2_with fail
    go_ret
    exact ⟨_, rfl, World.ownsRow_nil _ _ _ _, Ext.refl _⟩
  · obtain ⟨Gc, cur, hG1, hG2, hcs, hrz⟩ : ∃ (Gc : Nat) (cur : Array Value), m ≤ Gc ∧ Gc ≤ maxLen ∧ cur.size = Gc * 6 ∧ ∀ ty, (Builtin.append_ #[22, 3] ty #[.slice none 0 0, .int .i64 (m : Int)]).run Tryz.prog w = .ok (.slice (some ⟨w.heap.size, 0, none⟩) m Gc) (w.drew.alloc (.cells cur 60)) := by
      refine ⟨grownCap w m 0 60, #[] ++ Builtin.zeroCells (Value.cells (.agg #[.int .i64 0, .int .i64 0, .slice none 0 0, .int .i64 0, .int .i64 0, .slice none 0 0])) m ++ Builtin.zeroCells (Value.cells (.agg #[.int .i64 0, .int .i64 0, .slice none 0 0, .int .i64 0, .int .i64 0, .slice none 0 0])) (grownCap w m 0 60 - m), grownCap_ge w m 0 _, grownCap_le_maxLen w m 0 _ (by unfold maxLen; omega), ?_, fun ty => ?_⟩
      · have hge := grownCap_ge w m 0 60
        have h6 : (Value.cells (.agg #[.int .i64 0, .int .i64 0, .slice none 0 0, .int .i64 0, .int .i64 0, .slice none 0 0])).size = 6 := rfl
        simp only [Array.size_append, size_zeroCells, h6, List.size_toArray, List.length_nil]
        omega
      · have h := Lib.run_append_grow_zeros (P := Tryz.prog) w 22 3 ty 60 i0 (.agg #[.int .i64 0, .int .i64 0, .slice none 0 0, .int .i64 0, .int .i64 0, .slice none 0 0]) .i64 .i64 Tryz.underlying22 Tryz.underlying3 hi hz0 none 0 0 [] (run_firstCells_none w.drew i0.size 0 0 0) m (by omega) (by rw [hz1]; decide) (by omega) (by omega) (by rw [hz2]; omega) (by rw [hz2]; exact growslice_fits (need := 0 + m) (old := 0) (bytes := 80) (by omega) (by omega))
        rw [Nat.zero_add] at h
        exact h
    have hown := World.ownsRow_made (base := w.heap.size) (e := 60) (size := 6) w.drew cur Gc (Nat.le_refl _) hG2 hcs
    have hE0 : Ext w w.drew := Below.drew (Ext.refl w)
    have hE : Ext w (w.drew.alloc (.cells cur 60)) := hE0.trans (ext_al _ _)
    have Hown := Lib.hid hown; have HE := Lib.hid hE
    have p0 : ¬ (m : Int) < 0 := by omega
    have p1 : (0 : Int) < (m : Int) := by omega
    have p2 : IntKind.i64.wrap ((m : Int) - 0) = (m : Int) := by rw [IntKind.wrap_i64]; omega
    have hG3 : Gc ≤ 9223372036854775807 := by unfold maxLen at hG2; omega
    clear hi hz0 hz1 hz2 hown hE hE0 hG2 hcs h0
    go_enter Tryz.func79, Tryz.ntmps79
    go_wp2_with (at_builtin; refine Lib.wpList_append_run _ rfl _ _ _ _ rfl _ _ rfl rfl _ _ (hrz _) ?_)
    all_goals (go_ret; exact ⟨_, rfl, Hown.out, HE.out⟩)

/-- The cells of operations, those of none too. -/
theorem srcCells {w : World} {ao : Option Addr} {n : Nat} {ops : List Gop} (h : OpsAt w ao n ops) : ∃ ys : List Value, ys.length = n * 6 ∧ (∀ ad, ao = some ad → ∀ j u, ys[j]? = some u → w.cell? (ad.add j) = some u) ∧ (∀ u ∈ ys, u.oneCell' = true) ∧
    ∀ t g, ops[t]? = some g → ∃ (a1 : Option Addr) (n1 c1 : Nat) (a2 : Option Addr) (n2 c2 : Nat), ys[t * 6]? = some (.int .i64 g.kind) ∧ ys[t * 6 + 1]? = some (.int .i64 g.k) ∧ ys[t * 6 + 2]? = some (.slice a1 n1 c1) ∧ ys[t * 6 + 3]? = some (.int .i64 g.q) ∧ ys[t * 6 + 4]? = some (.int .i64 g.bit) ∧ ys[t * 6 + 5]? = some (.slice a2 n2 c2) ∧ OpL w g a1 n1 c1 a2 n2 c2 := by
  by_cases h0 : n = 0
  · refine ⟨[], by rw [h0]; rfl, fun ad _ j u hu => by simp at hu, fun u hu => by simp at hu, fun t g hg => ?_⟩
    have h1 := (List.getElem?_eq_some_iff.1 hg).1
    have h2 := h.1
    omega
  · obtain ⟨b, o, rfl⟩ := h.some_of (by omega)
    obtain ⟨ys, h1, h2, h3, h4⟩ := opsAt_cells h
    exact ⟨ys, h1, fun ad e => by cases e; exact h2, h3, h4⟩

/-- What stands ahead of number i of two. -/
def pre2 {α : Type} (x y z : α) (i : Nat) : α := if i = 0 then x else if i = 1 then y else z

set_option maxHeartbeats 8000000 in
set_option maxRecDepth 100000 in
theorem concat_any (s : Nat) (ao : Option Addr) (n cp : Nat) (bo : Option Addr) (m cq : Nat) (opsA opsB : List Gop) (w : World) (hA : OpsAt w ao n opsA) (hB : OpsAt w bo m opsB) (hna : ao = none → cp = 0) (hnb : bo = none → cq = 0) (hn : n ≤ 4096) (hm : m ≤ 4096)
    (c0 : w.cell? ⟨s, 0, none⟩ = some (.slice ao n cp)) (c1 : w.cell? ⟨s, 1, none⟩ = some (.slice bo m cq)) :
    Calls Tryz.prog 45 #[.slice (some ⟨s, 0, none⟩) 2 2] w fun e w' => ∃ v', e = .returned v' ∧ OpsL w w' w.heap.size v' (opsA ++ opsB) ∧ Ext w w' := by
  obtain ⟨i0, hi, hz0, hz1, hz2⟩ := info_parts op_info
  have hlA := hA.1; have hlB := hB.1
  obtain ⟨ya, ya1, ya2, ya3, ya4⟩ := srcCells hA
  obtain ⟨yb, yb1, yb2, yb3, yb4⟩ := srcCells hB
  have hnoA : ao = none → n = 0 := fun e => by
    rcases hA.2 with h | ⟨_, _, h, _⟩
    · exact h
    · rw [e] at h; cases h
  have hnoB : bo = none → m = 0 := fun e => by
    rcases hB.2 with h | ⟨_, _, h, _⟩
    · exact h
    · rw [e] at h; cases h
  have HA1 := Lib.hid ya1; have HA2 := Lib.hid ya2; have HA3 := Lib.hid ya3; have HA4 := Lib.hid ya4; have HB1 := Lib.hid yb1; have HB2 := Lib.hid yb2; have HB3 := Lib.hid yb3; have HB4 := Lib.hid yb4
  have HlA := Lib.hid hlA; have HlB := Lib.hid hlB; have HnA := Lib.hid hna; have HnB := Lib.hid hnb; have HnoA := Lib.hid hnoA; have HnoB := Lib.hid hnoB
  have slt : s < w.heap.size := World.block_lt_of_cell? w _ c0
  have Hslt := Lib.hid slt
  have HGr := Lib.hid (fun k wx (hk : k ≤ 10000) => grow0_any k wx hk)
  obtain ⟨nm, hnm⟩ : ∃ y, n + m = y := ⟨_, rfl⟩
  have hnm4 : nm ≤ 8192 := by omega
  have w1 : IntKind.i64.wrap (0 + (n : Int)) = (n : Int) := by rw [IntKind.wrap_i64]; omega
  have w2 : IntKind.i64.wrap ((n : Int) + (m : Int)) = (nm : Int) := by rw [IntKind.wrap_i64]; omega
  have p1 : ¬ (n : Int) < 0 := by omega
  have p2 : ¬ (nm : Int) < 0 := by omega
  have C0 := Lib.hid c0; have C1 := Lib.hid c1
  clear hA hB ya1 ya2 ya3 ya4 yb1 yb2 yb3 yb4 hlA hlB hna hnb hnoA hnoB slt
  go_enter Tryz.func45, Tryz.ntmps45
  go_wp2_with fail
  go_loopg [3, 5, 11] 2 (fun kk s3 s5 s11 wx => ∃ i : Nat, s11 = .int .i64 (i : Int) ∧ i ≤ 2 ∧ 2 - i = kk ∧ s3 = .int .i64 (pre2 (0 : Int) (n : Int) (nm : Int) i) ∧ wx = w)
  case atStart => exact ⟨0, rfl, by omega, by omega, rfl, rfl⟩
  case round =>
    obtain ⟨i, rfl, hi2, hk, rfl, rfl⟩ := hrel
    by_cases h2 : i = 2
    · subst h2
      have e2 : pre2 (0 : Int) (n : Int) (nm : Int) 2 = (nm : Int) := rfl
      rw [e2]
      obtain ⟨W9, rfl⟩ : ∃ W9 : World, W9 = wr := ⟨_, rfl⟩
      go_wp2_with fail
      refine (HGr.out nm W9 (by omega)).mono ?_
      rintro e u1 ⟨v0, rfl, hO, hE⟩
      have HO := Lib.hid hO; have HE := Lib.hid hE
      clear hO hE
      go_wp2_with fail
      go_loopg [6, 8, 27] 2 (fun kk s6 s8 s27 wx => ∃ j : Nat, s27 = .int .i64 (j : Int) ∧ j ≤ 2 ∧ 2 - j = kk ∧ Ext W9 wx ∧ ∃ (v6 : Value) (xs : List Value), v6 = s6 ∧ wx.ownsRow W9.heap.size 60 6 v6 (pre2 0 n nm j) xs ∧ xs = pre2 [] ya (ya ++ yb) j)
      case atStart => exact ⟨0, rfl, by omega, by omega, HE.out, _, [], rfl, HO.out, rfl⟩
      case round =>
        obtain ⟨j, rfl, hj2, hkj, hX, v6, xs, rfl, hown, hxs⟩ := hrel
        subst hxs
        by_cases h3 : j = 2
        · subst h3
          have HL := Lib.hid (show OpsL W9 wr W9.heap.size v6 (opsA ++ opsB) from OpsL.app (xs := ya) (ys := yb) (by rw [HA1.out, HlA.out]) (by rw [HlA.out, HlB.out, hnm]; exact hown) HA4.out HB4.out)
          have HX := Lib.hid hX
          clear hown hX
          go_wp2_with fail
          go_ret
          exact ⟨_, rfl, HL.out, HX.out⟩
        rcases (show j = 0 ∨ j = 1 by omega) with h4 | h4
        · subst h4
          have hc := cell_ext C0.out hX
          have Hown := Lib.hid (show wr.ownsRow W9.heap.size 60 6 v6 0 [] from hown); have HX := Lib.hid hX
          clear hown hX
          obtain ⟨aa, haa⟩ : ∃ y, ao = y := ⟨_, rfl⟩
          rw [haa] at hc HA2 HnA HnoA
          clear haa
          cases aa with
          | none =>
            have h0 := HnoA.out rfl; have h1 := HnA.out rfl
            subst h0; subst h1
            have hy : ya = [] := List.length_eq_zero_iff.1 (by rw [HA1.out, Nat.zero_mul])
            have Hy := Lib.hid hy
            clear hy
            go_wp2_with (at_builtin; refine wpList_append_own_none rfl _ _ 22 rfl W9.heap.size 60 i0 6 Tryz.underlying22 hi _ _ _ rfl Hown.out rfl ?_)
            go_roundg (2 - 1)
            case measure => omega
            case rel => exact ⟨1, by go_num, by omega, rfl, HX.out, _, ya, rfl, by rw [Hy.out]; exact Hown.out, rfl⟩
          | some ad =>
            have Hcl := Lib.hid (show ∀ j u, ya[j]? = some u → wr.cell? (ad.add j) = some u from fun j u hu => by
              have h5 := HA2.out ad rfl j u hu
              exact (HX.out.cell (World.block_lt_of_cell? _ _ h5)).trans h5)
            go_wp2_with (at_builtin; refine wpList_append_own _ rfl _ _ 22 rfl W9.heap.size 60 i0 (.agg #[.int .i64 0, .int .i64 0, .slice none 0 0, .int .i64 0, .int .i64 0, .slice none 0 0]) 6 80 Tryz.underlying22 hi hz0 hz1 hz2 rfl (by decide) _ _ _ rfl Hown.out ad n cp ya rfl HA1.out Hcl.out HA3.out (by unfold maxLen; omega) (by omega) HX.out.size ?_; intro v' w7 hown' hgrow' _)
            have HX7 := Lib.hid (grown_ext HX.out hgrow' (fun q hq => (own_lt Hown.out q hq).1))
            have Hown7 := Lib.hid hown'
            clear hown' hgrow'
            go_roundg (2 - 1)
            case measure => omega
            case rel => exact ⟨1, by go_num, by omega, rfl, HX7.out, _, ya, rfl, by have := Hown7.out; rw [Nat.zero_add, List.nil_append] at this; exact this, rfl⟩
        · subst h4
          have hc := cell_ext C1.out hX
          have Hown := Lib.hid (show wr.ownsRow W9.heap.size 60 6 v6 n ya from hown); have HX := Lib.hid hX
          clear hown hX
          obtain ⟨aa, haa⟩ : ∃ y, bo = y := ⟨_, rfl⟩
          rw [haa] at hc HB2 HnB HnoB
          clear haa
          cases aa with
          | none =>
            have h0 := HnoB.out rfl; have h1 := HnB.out rfl
            subst h0; subst h1
            have hy : yb = [] := List.length_eq_zero_iff.1 (by rw [HB1.out, Nat.zero_mul])
            have Hy := Lib.hid hy
            clear hy
            go_wp2_with (at_builtin; refine wpList_append_own_none rfl _ _ 22 rfl W9.heap.size 60 i0 6 Tryz.underlying22 hi _ _ _ rfl Hown.out rfl ?_)
            go_roundg (2 - 2)
            case measure => omega
            case rel => exact ⟨2, by go_num, by omega, rfl, HX.out, _, (ya ++ yb), rfl, by rw [Hy.out, List.append_nil]; have := Hown.out; rw [show n = nm by omega] at this; exact this, rfl⟩
          | some ad =>
            have Hcl := Lib.hid (show ∀ j u, yb[j]? = some u → wr.cell? (ad.add j) = some u from fun j u hu => by
              have h5 := HB2.out ad rfl j u hu
              exact (HX.out.cell (World.block_lt_of_cell? _ _ h5)).trans h5)
            go_wp2_with (at_builtin; refine wpList_append_own _ rfl _ _ 22 rfl W9.heap.size 60 i0 (.agg #[.int .i64 0, .int .i64 0, .slice none 0 0, .int .i64 0, .int .i64 0, .slice none 0 0]) 6 80 Tryz.underlying22 hi hz0 hz1 hz2 rfl (by decide) _ _ _ rfl Hown.out ad m cq yb rfl HB1.out Hcl.out HB3.out (by unfold maxLen; omega) (by omega) HX.out.size ?_; intro v' w7 hown' hgrow' _)
            have HX7 := Lib.hid (grown_ext HX.out hgrow' (fun q hq => (own_lt Hown.out q hq).1))
            have Hown7 := Lib.hid hown'
            clear hown' hgrow'
            go_roundg (2 - 2)
            case measure => omega
            case rel => exact ⟨2, by go_num, by omega, rfl, HX7.out, _, (ya ++ yb), rfl, by have := Hown7.out; rw [hnm] at this; exact this, rfl⟩
    rcases (show i = 0 ∨ i = 1 by omega) with h4 | h4
    · subst h4
      have e0 : pre2 (0 : Int) (n : Int) (nm : Int) 0 = 0 := rfl
      rw [e0]
      have hc := C0.out
      go_wp2_with fail
      go_roundg (2 - 1)
      case measure => omega
      case rel => exact ⟨1, by go_num, by omega, rfl, rfl, rfl⟩
    · subst h4
      have e0 : pre2 (0 : Int) (n : Int) (nm : Int) 1 = (n : Int) := rfl
      rw [e0]
      have hc := C1.out
      go_wp2_with fail
      go_roundg (2 - 2)
      case measure => omega
      case rel => exact ⟨2, by go_num, by omega, rfl, rfl, rfl⟩

end Go.Proofs.YtfjnlopbmkimiaaGreatDoor
namespace Go.Proofs.YtfjnlopbmkimiaaGreatDoor
open Go.RowKit

set_option maxHeartbeats 8000000 in
set_option maxRecDepth 100000 in
theorem with_N (qb bi : Int) (ao0 : Option Addr) (n0 cp0 : Nat) (ao : Option Addr) (n cp : Nat) (ops : List Gop) (w : World) (h : OpsAt w ao n ops) (hn : n ≤ 10000) (hb : ∀ g ∈ ops, g.ctl.length ≤ 1000 ∧ g.cnd.length ≤ 1000) :
    Calls Tryz.prog 40 #[.agg #[.int .i64 qb, .int .i64 bi, .slice ao0 n0 cp0], .slice ao n cp] w fun e w' => (∃ (a' : Option Addr) (c' : Nat), e = .returned (.agg #[.int .i64 qb, .int .i64 bi, .slice a' n c']) ∧ OpsN w' (w.heap.size + 3) (.slice a' n c') ops) ∧ Ext w w' := by
  obtain ⟨i0, hi, hz0, hz1, hz2⟩ := info_parts op_info
  have Hl := Lib.hid h.1
  obtain ⟨H, hH⟩ : ∃ H, w.heap.size = H := ⟨_, rfl⟩
  obtain ⟨A1, hA1⟩ : ∃ A1, w.alloc (.cells #[.int .i64 qb, .int .i64 bi, .slice ao0 n0 cp0] 24) = A1 := ⟨_, rfl⟩
  obtain ⟨A2, hA2⟩ : ∃ A2, A1.alloc (.cells #[.int .i64 0, .int .i64 0, .slice none 0 0] 24) = A2 := ⟨_, rfl⟩
  obtain ⟨A3, hA3⟩ : ∃ A3, A2.alloc (.cells #[.int .i64 qb, .int .i64 bi, .slice none 0 0] 24) = A3 := ⟨_, rfl⟩
  have hA2' : (w.alloc (.cells #[.int .i64 qb, .int .i64 bi, .slice ao0 n0 cp0] 24)).alloc (.cells #[.int .i64 0, .int .i64 0, .slice none 0 0] 24) = A2 := by rw [hA1, hA2]
  have s1 : A1.heap.size = H + 1 := by rw [← hA1, ← hH]; simp
  have s2 : A2.heap.size = H + 2 := by rw [← hA2]; simp; omega
  have s3 : A3.heap.size = H + 3 := by rw [← hA3]; simp; omega
  have x1 : Ext w A1 := by rw [← hA1]; exact ext_al _ _
  have x2 : Ext A1 A2 := by rw [← hA2]; exact ext_al _ _
  have x3 : Ext A2 A3 := by rw [← hA3]; exact ext_al _ _
  have bC : CiB A2 H qb bi ao0 n0 cp0 := by
    have : CiB A1 H qb bi ao0 n0 cp0 := by rw [← hA1, ← hH]; exact ⟨heap_alloc_new w _⟩
    exact this.ext x2
  have bR : CiB A3 (H + 1) 0 0 none 0 0 := by
    have : CiB A2 (H + 1) 0 0 none 0 0 := by rw [← hA2, ← s1]; exact ⟨heap_alloc_new A1 _⟩
    exact this.ext x3
  have bO : CiB A3 (H + 2) qb bi none 0 0 := by rw [← hA3, ← s2]; exact ⟨heap_alloc_new A2 _⟩
  have HhH := Lib.hid hH
  have m0 := bC.x0; have m1 := bC.x1
  have HA := Lib.hid hA2'; have HA3 := Lib.hid hA3; have HE3 := Lib.hid ((x1.trans x2).trans x3); have HbR := Lib.hid bR; have HbO := Lib.hid bO; have Hops := Lib.hid h; have Hb := Lib.hid hb
  have Hs3 := Lib.hid s3; have Hs2 := Lib.hid s2
  rw [← hH] at m0 m1
  rw [← hA2'] at m0 m1
  clear h hb hA1 hA2 hA3 hA2' s1 s2 s3 x1 x2 x3 bC bR bO
  go_enter Tryz.func40, Tryz.ntmps40
  go_wp2_with fail
  rw [HA.out, HA3.out]
  go_loopg [7, 15] n (fun kk s7 s15 wx => ∃ (i : Nat) (av : Option Addr) (cv : Nat), s15 = .int .i64 (i : Int) ∧ i ≤ n ∧ n - i = kk ∧ CiB wx (H + 1) 0 0 none 0 0 ∧ CiB wx (H + 2) qb bi av i cv ∧ OpsN wx (H + 3) (.slice av i cv) (ops.take i) ∧ Ext w wx ∧ H + 3 ≤ wx.heap.size)
  case atStart => exact ⟨0, none, 0, rfl, by omega, by omega, HbR.out, HbO.out, OpsN.nil _ _, HE3.out, by rw [Hs3.out]; exact Nat.le_refl _⟩
  case round =>
    clear HbR HbO HE3 m0 m1
    obtain ⟨i, av, cv, rfl, hin', hk, bR, bO, hown, hX, hbs⟩ := hrel
    by_cases hin : i = n
    · have q1 : ¬ (i : Int) < (n : Int) := by omega
      have q1' : decide ((i : Int) < (n : Int)) = false := df q1
      have htk : ops.take i = ops := List.take_of_length_le (by rw [Hl.out]; omega)
      rw [htk] at hown
      have y0 := bO.x0; have y1 := bO.x1; have y2 := bO.x2
      have r0 := bR.x0; have r1 := bR.x1; have r2 := bR.x2; have g0 := bR.f 0; have g1 := bR.f 1; have g2 := bR.f 2
      have hO3 : Only (H + 1) wr (((wr.setCell ⟨H + 1, 0, none⟩ (.int .i64 qb)).setCell ⟨H + 1, 1, none⟩ (.int .i64 bi)).setCell ⟨H + 1, 2, none⟩ (.slice av i cv)) := (((Only.refl _ _).setCell _ _).setCell _ _).setCell _ _
      have hoF := hown.only bR.row (by decide) hO3 (by omega)
      have zC : CiB (((wr.setCell ⟨H + 1, 0, none⟩ (.int .i64 qb)).setCell ⟨H + 1, 1, none⟩ (.int .i64 bi)).setCell ⟨H + 1, 2, none⟩ (.slice av i cv)) (H + 1) qb bi av i cv := ((bR.set0 qb).set1 bi).set2 av i cv
      have HE := Lib.hid (cput (o := 2) (cput (o := 1) (cput (o := 0) hX (show w.heap.size ≤ H + 1 by omega) (.int .i64 qb)) (show w.heap.size ≤ H + 1 by omega) (.int .i64 bi)) (show w.heap.size ≤ H + 1 by omega) (.slice av i cv))
      have HoF := Lib.hid hoF; have Hin := Lib.hid hin; have HzC := Lib.hid zC
      clear hown hO3 hoF bR bO hX hin htk zC hk hin'
      go_wp2_with fail
      generalize ((wr.setCell ⟨H + 1, 0, none⟩ (.int .i64 qb)).setCell ⟨H + 1, 1, none⟩ (.int .i64 bi)).setCell ⟨H + 1, 2, none⟩ (.slice av i cv) = Wz at *
      have z0 := HzC.out.x0; have z1 := HzC.out.x1; have z2 := HzC.out.x2
      exact bodyPost_ret (v := .agg #[.int .i64 qb, .int .i64 bi, .slice av i cv]) (by simp [results, Tryz.results40, go_sem, z0, z1, z2]) rfl ⟨⟨av, cv, by rw [Hin.out], Eq.mp (congrArg (fun v => OpsN _ (H + 3) v ops) (show Value.slice av i cv = Value.slice av n cv by rw [Hin.out])) HoF.out⟩, HE.out⟩
    · have q1 : (i : Int) < (n : Int) := by omega
      have q1' : decide ((i : Int) < (n : Int)) = true := dt q1
      have q0 : (0 : Int) ≤ (i : Int) := by omega
      obtain ⟨gg, hg⟩ : ∃ g, ops[i]? = some g := ⟨_, List.getElem?_eq_getElem (by rw [Hl.out]; omega)⟩
      have hst : ops.take (i + 1) = ops.take i ++ [gg] := by rw [List.take_add_one, hg]; rfl
      obtain ⟨bo, oo, rfl⟩ := (Hops.out.ext hX).some_of (by omega)
      obtain ⟨a1, n1, c1, a2, n2, c2, t0, t1, t2, t3, t4, t5, hLo⟩ := (Hops.out.ext hX).at i gg hg
      obtain ⟨hbl1, hbl2⟩ := Hb.out gg (List.mem_of_getElem? hg)
      obtain ⟨kd, kk', ctl, qq, bb, cnd⟩ := gg
      simp only at t0 t1 t3 t4 hbl1 hbl2
      have hn1 : n1 ≤ 1000 := by rw [← hLo.i1.1]; exact hbl1
      have hn2 : n2 ≤ 1000 := by rw [← hLo.i2.1]; exact hbl2
      have hown' := hown
      obtain ⟨xs0, ho0x⟩ := hown
      have ho0 := ho0x.own
      have hnb : ∀ k, (Value.slice av i cv).ownBlock = some k → k < wr.heap.size := fun k hk' => (own_lt ho0 k hk').2
      obtain ⟨U, hU⟩ : ∃ U, wr.alloc (.cells #[.int .i64 kd, .int .i64 kk', .slice a1 n1 c1, .int .i64 qq, .int .i64 bb, .slice a2 n2 c2] 60) = U := ⟨_, rfl⟩
      obtain ⟨Bx, hBx⟩ : ∃ x, wr.heap.size = x := ⟨_, rfl⟩
      have hEU : Ext wr U := by rw [← hU]; exact ext_al _ _
      have bx : OpBx U Bx kd kk' a1 n1 c1 qq bb a2 n2 c2 := by rw [← hU, ← hBx]; exact opbx_new wr kd kk' a1 n1 c1 qq bb a2 n2 c2
      rw [hBx] at hnb
      have HOu := Lib.hid (hown'.ext hEU); have HbR := Lib.hid (bR.ext hEU); have HbO := Lib.hid (bO.ext hEU); have HEU := Lib.hid (hX.trans hEU); have Hbx := Lib.hid bx; have Hnb := Lib.hid hnb
      have HCp := Lib.hid (fun wx (hx : Ext U wx) => ccopyOp_N ⟨kd, kk', ctl, qq, bb, cnd⟩ a1 n1 c1 a2 n2 c2 wx ((hLo.ext hEU).ext hx) (by omega) (by omega))
      simp only at HCp
      have Hst := Lib.hid hst; have HU := Lib.hid hU
      have hbs' : H + 3 ≤ U.heap.size := Nat.le_trans hbs hEU.size
      clear hown' ho0 ho0x bR bO hX hEU bx hnb hLo hst hU hg hbl1 hbl2 hbs
      have hbs := hbs'
      clear hbs'
      go_upto_region 5 with fail
      rw [HU.out]
      clear t0 t1 t2 t3 t4 t5
      have v2 := HbO.out.x2
      have e0 := Hbx.out.x0; have e1 := Hbx.out.x1; have e2 := Hbx.out.x2; have e3 := Hbx.out.x3; have e4 := Hbx.out.x4; have e5 := Hbx.out.x5
      have hE0d : Ext U U.drew := Below.drew (Ext.refl _)
      refine wp_region_K 7 (fun w' => w'.cell? ⟨H + 2, 2, none⟩ = some (.slice av i cv) ∧ w'.cell? ⟨Bx, 0, none⟩ = some (.int .i64 kd) ∧ w'.cell? ⟨Bx, 1, none⟩ = some (.int .i64 kk') ∧ w'.cell? ⟨Bx, 2, none⟩ = some (.slice a1 n1 c1) ∧ w'.cell? ⟨Bx, 3, none⟩ = some (.int .i64 qq) ∧ w'.cell? ⟨Bx, 4, none⟩ = some (.int .i64 bb) ∧ w'.cell? ⟨Bx, 5, none⟩ = some (.slice a2 n2 c2)) (by kernel_rfl) ?_
      show anyK _ _ _ _ _ _ 8 #[false, false, false, false, false, false, false, false] _ _
      have hHeld : U.drew.cell? ⟨H + 2, 2, none⟩ = some (.slice av i cv) ∧ U.drew.cell? ⟨Bx, 0, none⟩ = some (.int .i64 kd) ∧ U.drew.cell? ⟨Bx, 1, none⟩ = some (.int .i64 kk') ∧ U.drew.cell? ⟨Bx, 2, none⟩ = some (.slice a1 n1 c1) ∧ U.drew.cell? ⟨Bx, 3, none⟩ = some (.int .i64 qq) ∧ U.drew.cell? ⟨Bx, 4, none⟩ = some (.int .i64 bb) ∧ U.drew.cell? ⟨Bx, 5, none⟩ = some (.slice a2 n2 c2) := ⟨v2, e0, e1, e2, e3, e4, e5⟩
      refine anyK_take (i := 0) (v := ?_) rfl (by kernel_rfl) (by kernel_rfl) (by kernel_rfl) (N := 8) (by kernel_rfl) (by kernel_rfl) (by kernel_rfl) (fun _ _ _ h => h) (Or.inl ⟨by rfl, ?_⟩) hHeld ?_
      rotate_left 1
      · intro w hSw
        go_simp
        try with_reducible rfl
      show anyK _ _ _ _ _ _ _ _ (Act.put _ (some 19) _) _
      simp only [Act.put, List.setIfInBounds_toArray, List.set_cons_zero, List.set_cons_succ]
      refine anyK_take (i := 1) (v := ?_) rfl (by kernel_rfl) (by kernel_rfl) (by kernel_rfl) (N := 8) (by kernel_rfl) (by kernel_rfl) (by kernel_rfl) (fun _ _ _ h => h) (Or.inl ⟨by rfl, ?_⟩) hHeld ?_
      rotate_left 1
      · intro w hSw
        go_simp
        try with_reducible rfl
      show anyK _ _ _ _ _ _ _ _ (Act.put _ (some 20) _) _
      simp only [Act.put, List.setIfInBounds_toArray, List.set_cons_zero, List.set_cons_succ]
      refine anyK_take (i := 2) (v := ?_) rfl (by kernel_rfl) (by kernel_rfl) (by kernel_rfl) (N := 8) (by kernel_rfl) (by kernel_rfl) (by kernel_rfl) (fun _ _ _ h => h) (Or.inl ⟨by rfl, ?_⟩) hHeld ?_
      rotate_left 1
      · intro w hSw
        go_simp
        try with_reducible rfl
      show anyK _ _ _ _ _ _ _ _ (Act.put _ (some 21) _) _
      simp only [Act.put, List.setIfInBounds_toArray, List.set_cons_zero, List.set_cons_succ]
      clear hHeld
      refine anyK_one (i := 3) (by kernel_rfl) rfl (fun Kk hKk => ?_)
      go_simp
      (go_at_call 76; refine (HCp.out _ hE0d).mono ?_; rintro e w4 ⟨⟨a3, c3, a5, c5, rfl, O4⟩, hx4⟩; have he4 : Ext U w4 := hE0d.trans hx4)
      go_wp2_with fail
      refine hKk.out _ _ (fun _ => ⟨cell_ext v2 he4, cell_ext e0 he4, cell_ext e1 he4, cell_ext e2 he4, cell_ext e3 he4, cell_ext e4 he4, cell_ext e5 he4⟩) ?_
      clear hKk Kk
      simp only [List.setIfInBounds_toArray, List.set_cons_zero, List.set_cons_succ]
      have he5 : Ext U (w4.alloc (.cells #[.int .i64 kd, .int .i64 kk', .slice a3 n1 c3, .int .i64 qq, .int .i64 bb, .slice a5 n2 c5] 60)) := he4.trans (ext_al _ _)
      refine anyK_one (i := 4) (by kernel_rfl) rfl (fun Kk hKk => ?_)
      go_wp2_with fail
      refine hKk.out _ _ (fun _ => ⟨cell_ext v2 he5, cell_ext e0 he5, cell_ext e1 he5, cell_ext e2 he5, cell_ext e3 he5, cell_ext e4 he5, cell_ext e5 he5⟩) ?_
      clear hKk Kk
      simp only [List.setIfInBounds_toArray, List.set_cons_zero, List.set_cons_succ]
      obtain ⟨xs, hx0⟩ := HOu.out
      have hxx := hx0.ext he4
      have ho := hxx.own
      have ho5 := ho.alloc (.cells #[.int .i64 kd, .int .i64 kk', .slice a3 n1 c3, .int .i64 qq, .int .i64 bb, .slice a5 n2 c5] 60)
      have hli : (ops.take i).length = i := by rw [List.length_take, Hl.out]; omega
      obtain ⟨g, cap, w7, hrun, hown', hgrow', hcase, hglt⟩ := run_append_lies (P := Tryz.prog) (w4.alloc (.cells #[.int .i64 kd, .int .i64 kk', .slice a3 n1 c3, .int .i64 qq, .int .i64 bb, .slice a5 n2 c5] 60)) 22 22 (H + 3) 60 i0 (.agg #[.int .i64 0, .int .i64 0, .slice none 0 0, .int .i64 0, .int .i64 0, .slice none 0 0]) 6 80 Tryz.underlying22 hi hz0 hz1 hz2 rfl (by decide) (.slice av i cv) (ops.take i).length xs ho5 ⟨w4.heap.size, 0, none⟩ 1 1 [.int .i64 kd, .int .i64 kk', .slice a3 n1 c3, .int .i64 qq, .int .i64 bb, .slice a5 n2 c5] rfl (new_op w4 _ _ _ _ _ _ _ _ _ _ _) (one_op _ _ _ _ _ _ _ _ _ _) (by omega) (by rw [hli]; unfold maxLen; omega) (by rw [hli]; omega) (Nat.le_trans hbs he5.size) _ rfl
      rw [hli] at hrun
      refine anyK_one (i := 5) (by kernel_rfl) rfl (fun Kk hKk => ?_)
      refine stepK_append rfl _ _ 22 rfl (.slice av i cv) (.slice (some ⟨w4.heap.size, 0, none⟩) 1 1) _ rfl rfl hrun ?_
      have hkind := PtKind ho5
      have hk7 : ∀ (b' : Nat) (cur : Array Value) (fr : Nat × Nat), (w4.alloc (.cells #[.int .i64 kd, .int .i64 kk', .slice a3 n1 c3, .int .i64 qq, .int .i64 bb, .slice a5 n2 c5] 60)).heap[b']? = some (.cells cur 3 fr) → w7.heap[b']? = (w4.alloc (.cells #[.int .i64 kd, .int .i64 kk', .slice a3 n1 c3, .int .i64 qq, .int .i64 bb, .slice a5 n2 c5] 60)).heap[b']? := fun b' cur fr hb' => by
        refine hgrow'.block b' (Array.getElem?_eq_some_iff.1 hb').1 (fun e => ?_)
        obtain ⟨_, cs, fr', e2⟩ := hkind b' e.symm
        rw [e2] at hb'
        cases hb'
      have O7 := (O4.ext (ext_al _ (.cells #[.int .i64 kd, .int .i64 kk', .slice a3 n1 c3, .int .i64 qq, .int .i64 bb, .slice a5 n2 c5] 60))).keep hk7
      have own7 := OpsX.snoc (g := ⟨kd, kk', ctl, qq, bb, cnd⟩) (hxx.ext (ext_al _ _)) hown' hk7 hx0.old (show H + 3 ≤ U.heap.size from hbs) O7
      have bOut7 : CiB w7 (H + 2) qb bi av i cv := CiB_grown hgrow' hkind (HbO.out.ext he5) (by omega)
      have bRes7 : CiB w7 (H + 1) 0 0 none 0 0 := CiB_grown hgrow' hkind (HbR.out.ext he5) (by omega)
      have bBox7 : OpBx w7 Bx kd kk' a1 n1 c1 qq bb a2 n2 c2 := ⟨(hgrow'.block _ (Hbx.out.ext he5).lt (fun e => by have := Hnb.out _ e.symm; omega)).trans (Hbx.out.ext he5).row⟩
      have x2' := bOut7.x2; have fz2 := bOut7.f 2
      have hHeld : w7.cell? ⟨H + 2, 2, none⟩ = some (.slice av i cv) ∧ w7.cell? ⟨Bx, 0, none⟩ = some (.int .i64 kd) ∧ w7.cell? ⟨Bx, 1, none⟩ = some (.int .i64 kk') ∧ w7.cell? ⟨Bx, 2, none⟩ = some (.slice a1 n1 c1) ∧ w7.cell? ⟨Bx, 3, none⟩ = some (.int .i64 qq) ∧ w7.cell? ⟨Bx, 4, none⟩ = some (.int .i64 bb) ∧ w7.cell? ⟨Bx, 5, none⟩ = some (.slice a2 n2 c2) := ⟨x2', bBox7.x0, bBox7.x1, bBox7.x2, bBox7.x3, bBox7.x4, bBox7.x5⟩
      refine hKk.out _ _ (fun _ => hHeld) ?_
      clear hKk Kk
      show anyK _ _ _ _ _ _ _ _ (Act.put _ (some 24) _) _
      simp only [Act.put, List.setIfInBounds_toArray, List.set_cons_zero, List.set_cons_succ]
      refine anyK_take (i := 6) (v := ?_) rfl (by kernel_rfl) (by kernel_rfl) (by kernel_rfl) (N := 8) (by kernel_rfl) (by kernel_rfl) (by kernel_rfl) (fun _ _ _ h => h) (Or.inl ⟨by rfl, ?_⟩) hHeld ?_
      rotate_left 1
      · intro w hSw
        go_simp
        try with_reducible rfl
      show anyK _ _ _ _ _ _ _ _ (Act.put _ (some 25) _) _
      simp only [Act.put, List.setIfInBounds_toArray, List.set_cons_zero, List.set_cons_succ]
      clear hHeld
      refine anyK_one (i := 7) (by kernel_rfl) rfl (fun Kk hKk => ?_)
      refine stepK_store rfl rfl _ _ rfl (H + 2) 2 (some ⟨g, 0, none⟩) (i + 1) cap (.slice av i cv) rfl rfl x2' fz2 ?_
      refine hKk.out _ _ (fun h => Bool.noConfusion (show true = false from h)) ?_
      clear hKk Kk
      simp only [List.setIfInBounds_toArray, List.set_cons_zero, List.set_cons_succ]
      refine anyK_done (by kernel_rfl) ?_ _
      have hOo := only1 w7 (H + 2) 2 (.slice (some ⟨g, 0, none⟩) (i + 1) cap)
      have Hown8 := Lib.hid (show OpsN _ (H + 3) _ _ from ⟨_, own7.only bOut7.row (by decide) hOo (by omega)⟩)
      rw [hli] at Hown8
      clear hli
      have HbO8 := Lib.hid (bOut7.set2 (some ⟨g, 0, none⟩) (i + 1) cap)
      have HbR8 := Lib.hid (show CiB (w7.setCell ⟨H + 2, 2, none⟩ (.slice (some ⟨g, 0, none⟩) (i + 1) cap)) (H + 1) 0 0 none 0 0 from ⟨(hOo.block _ (by omega)).trans bRes7.row⟩)
      have HE8 := Lib.hid (cput (o := 2) (grown_ext (HEU.out.trans he5) hgrow' (fun k hk => by have := (hkind k hk).1; have := HhH.out; omega)) (show w.heap.size ≤ H + 2 by have := HhH.out; omega) (.slice (some ⟨g, 0, none⟩) (i + 1) cap))
      have Hs8 := Lib.hid (show H + 3 ≤ (w7.setCell ⟨H + 2, 2, none⟩ (.slice (some ⟨g, 0, none⟩) (i + 1) cap)).heap.size by simp; exact Nat.le_trans (Nat.le_trans hbs he5.size) hgrow'.size)
      clear own7 bOut7 bRes7 bBox7 O7 hk7 hkind hgrow' hown' hrun ho5 ho hxx hx0 O4 hx4 he4 he5 hE0d v2 e0 e1 e2 e3 e4 e5 x2' fz2 hOo
      generalize w7.setCell ⟨H + 2, 2, none⟩ (.slice (some ⟨g, 0, none⟩) (i + 1) cap) = w8 at *
      go_wp2_with fail
      go_roundg (n - (i + 1))
      case measure => omega
      case rel => exact ⟨i + 1, some ⟨g, 0, none⟩, cap, by go_num, by omega, rfl, HbR8.out, HbO8.out, by rw [Hst.out]; exact Hown8.out, HE8.out, Hs8.out⟩

end Go.Proofs.YtfjnlopbmkimiaaGreatDoor
