/-
  The reference's numbers: zodd, zhalf. The reference's numbers: ZTwos. The reference's division, in plain numbers; an append of ints; what a store of the same value leaves. The reference's numbers of circuits in memory: eight numbers by digits and a power, side by side. Whole values loaded and stored in regions that draw their order; Of. The reference: is a number nought; -a; an integer. The reference: a number turned. The reference: half of an even number. The reference: the power brought down as far as it goes.
-/
import Derived.Test.YtlmfhopifggeaaaDoorProg
import Derived.Test.YtlmfhopifggeaaaDoorRows
import Derived.BigQuiet
import Derived.Deep.AppendLies
import Derived.Deep.Cut
import Derived.Deep.CutRange
import Derived.Deep.MidRow
import Derived.Deep.QuietTactic
import Derived.Deep.RegionHeld3
import Derived.Ground.Names2Prog
import Derived.Ground.SlgnProg
import Derived.Laws.Bits64b
import Derived.Laws.CopyOwn
import Derived.Laws.ResultCell
import Derived.Laws.Rows
import Derived.Lib.BitFns
import Derived.Lib.Hide
import Derived.Lib.ItoaNum
import Derived.Lib.Strings
import Derived.Lib.TrailingZeros
import Derived.OwnWalk
import Derived.Shelf.Slices.Clone
import Derived.Shelf.SlicesE.Clone
import Derived.WalkKit
import Derived.WalkLawsBesides
import Derived.WalkSpells
import Derived.Test.YtlmfhopifggeaaaDoorS00Mem
import Derived.Test.YtlmfhopifggeaaaDoorShelf
import Derived.Test.YtlmfhopifggeaaaDoorS02ZBq
import Derived.Test.YtlmfhopifggeaaaDoorS03ZKq
namespace Go.Proofs.YtlmfhopifggeaaaDoor
variable {Qc : Nat → Prop}
open Go.RowKit

theorem zval_odd (l : List Nat) (x : Nat) (hx : l.getD 0 0 = x) : zval l % 2 = x % 2 := by
  cases l with
  | nil => simp at hx; subst hx; rfl
  | cons y r =>
    simp at hx
    subst hx
    rw [zval]
    omega

theorem IsZ.abs {w : World} {neg : Bool} {ao : Option Addr} {n c : Nat} {z : Int} (h : IsZ Qc w neg ao n c z) : ∃ l : List Nat, l.length = n ∧ n ≤ c ∧ c ≤ maxLen ∧ ISeg w ao l ∧ ZD l ∧ ZN l ∧ z.natAbs = zval l ∧ z = (if neg then -(zval l : Int) else (zval l : Int)) ∧ (l = [] → neg = false) ∧ ClQ Qc w ao z := by
  obtain ⟨l, h1, h2, h3, h4, h5, h6, h7, h8⟩ := h
  exact ⟨l, h1, h2, h3, h4, h5, h6, by rw [h7]; cases neg <;> simp, h7, h8⟩

set_option maxHeartbeats 1000000 in
set_option maxRecDepth 100000 in
theorem zodd_any (neg : Bool) (ao : Option Addr) (n c : Nat) (z : Int) (w : World) (h : IsZ Qc w neg ao n c z) (bo : Bool) (hbo : decide (z.natAbs % 2 = 1) = bo) :
    Calls Tryd.prog 89 #[.agg #[.bool neg, .slice ao n c]] w fun e w' => e = .returned (.bool bo) ∧ Ext w w' := by
  obtain ⟨l, p1, p2, p3, p4, p5, p6, p7, p8, p9⟩ := h.abs
  have hE := ext_alloc w (.cells #[.bool neg, .slice ao n c] 56)
  by_cases h0 : n = 0
  · have hl : l = [] := List.eq_nil_of_length_eq_zero (by omega)
    have hf : bo = false := by rw [← hbo, p7, hl]; rfl
    subst h0 hf
    clear hbo p8 p7 h
    go_enter Tryd.func89, Tryd.ntmps89
    go_wp2
    go_ret
    exact ⟨rfl, ext_alloc _ _⟩
  · obtain ⟨b, o, rfl⟩ := p4.some_of (by omega)
    have hcl := (p4.ext hE).at 0 (by omega)
    rw [Nat.add_zero] at hcl
    obtain ⟨x, hx⟩ : ∃ x, l.getD 0 0 = x := ⟨_, rfl⟩
    rw [hx] at hcl
    have hx4 : x < 10000 := by rw [← hx]; exact p5.get 0
    have hb : bo = decide (x % 2 = 1) := by rw [← hbo, p7, zval_odd l x hx]
    have i0 : (0 : Int) < (n : Int) := by omega
    obtain ⟨r, hr⟩ : ∃ r, x % 2 = r := ⟨_, rfl⟩
    have t1 : (x : Int).tmod 2 = (r : Int) := by rw [Int.tmod_eq_emod_of_nonneg (by omega)]; omega
    have hrb : ((r : Int) == 1) = bo := by
      rw [hb, hr, Bool.eq_iff_iff, beq_iff_eq, decide_eq_true_eq]; omega
    clear hbo p8 p7 h hb hr hx p1 p2 p3 p4 p5 p6 p9 h0
    go_enter Tryd.func89, Tryd.ntmps89
    go_wp2
    go_ret
    exact ⟨rfl, hE⟩

theorem drop_set (D : List Nat) (j x : Nat) (h : j < D.length) : (D.set j x).drop j = x :: D.drop (j + 1) := by
  rw [List.drop_eq_getElem_cons (by rw [List.length_set]; exact h), List.getElem_set_self]
  congr 1
  apply List.ext_getElem?
  intro i
  rw [List.getElem?_drop, List.getElem?_drop, List.getElem?_set_ne (by omega)]

theorem zhalf_step {D l : List Nat} {j c x c1 d c2 : Nat} (hj : j < D.length) (hjl : j < l.length) (hx : l.getD j 0 = x) (hc1 : c1 = c * 10000 + x) (hd : c1 / 2 = d) (hc2 : c1 % 2 = c2) (h : zval (D.drop (j + 1)) * 2 + c = zval (l.drop (j + 1))) :
    zval ((D.set j d).drop j) * 2 + c2 = zval (l.drop j) := by
  rw [drop_set D j d hj, zval, zval_drop l j hjl, hx]
  omega

end Go.Proofs.YtlmfhopifggeaaaDoor
namespace Go.Proofs.YtlmfhopifggeaaaDoor
variable {Qc : Nat → Prop}
open Go.RowKit

theorem ZBx.own {W : World} {g : Nat} {b : Bool} {a : Option Addr} {n c : Nat} (h : ZBx W g b a n c) (b' : Bool) (a' : Option Addr) (n' c' : Nat) : ZBx ((W.setCell ⟨g, 0, none⟩ (.bool b')).setCell ⟨g, 1, none⟩ (.slice a' n' c')) g b' a' n' c' := by
  have h1 := heap_setCell_same W g 0 _ _ (.bool b') h.row
  have h2 := heap_setCell_same _ g 1 _ _ (.slice a' n' c') h1
  exact ⟨by rw [h2]; rfl⟩
theorem ZBx.f {W : World} {g : Nat} {b : Bool} {a : Option Addr} {n c : Nat} (h : ZBx W g b a n c) (o : Nat) : W.frozen? ⟨g, o, none⟩ = false := frozen_of_row W g o _ _ h.row

end Go.Proofs.YtlmfhopifggeaaaDoor
namespace Go.Proofs.YtlmfhopifggeaaaDoor
variable {Qc : Nat → Prop}
open Go.RowKit

theorem IsZ.len_of {w : World} {neg : Bool} {ao : Option Addr} {n c m : Nat} {z : Int} (h : IsZ Qc w neg ao n c z) (hz : z.natAbs < 10000 ^ m) : n ≤ m := by
  obtain ⟨l, p1, p2, p3, p4, p5, p6, p7, p8, p9⟩ := h.abs
  by_cases hl : l = []
  · rw [← p1, hl]; exact Nat.zero_le _
  · have h1 := zval_ge p6 hl
    rw [← p7, p1] at h1
    have h2 : 10000 ^ (n - 1) < 10000 ^ m := by omega
    have h3 := (Nat.pow_lt_pow_iff_right (a := 10000) (by decide)).1 h2
    omega

end Go.Proofs.YtlmfhopifggeaaaDoor
namespace Go.Proofs.YtlmfhopifggeaaaDoor
variable {Qc : Nat → Prop}
open Go.RowKit

/-- These cells are eight numbers f 0 .. f 7 and the power e. -/
def ZCs (Qc : Nat → Prop) (w : World) (cs : Array Value) (f : Nat → Int) (e : Int) : Prop := cs.size = 17 ∧
  (∀ i, i < 8 → ∃ (b : Bool) (a : Option Addr) (n c : Nat), cs[i * 2]? = some (.bool b) ∧ cs[i * 2 + 1]? = some (.slice a n c) ∧ IsZ Qc w b a n c (f i)) ∧ cs[16]? = some (.int .i64 e)
theorem ZCs.ext {w w' : World} {cs : Array Value} {f : Nat → Int} {e : Int} (h : ZCs Qc w cs f e) (k : Ext w w') : ZCs Qc w' cs f e :=
  ⟨h.1, fun i hi => by obtain ⟨b, a, n, c, q1, q2, q3⟩ := h.2.1 i hi; exact ⟨b, a, n, c, q1, q2, q3.ext k⟩, h.2.2⟩
theorem ZCs.congr {w : World} {cs : Array Value} {f f' : Nat → Int} {e : Int} (h : ZCs Qc w cs f e) (k : ∀ i, i < 8 → f i = f' i) : ZCs Qc w cs f' e :=
  ⟨h.1, fun i hi => by obtain ⟨b, a, n, c, q1, q2, q3⟩ := h.2.1 i hi; exact ⟨b, a, n, c, q1, q2, q3.cast (k i hi)⟩, h.2.2⟩
theorem ZCs.one {w : World} {cs : Array Value} {f : Nat → Int} {e : Int} (h : ZCs Qc w cs f e) : cs.all (·.oneCell') = true := by
  have h1 := h.1
  rw [Array.all_eq_true]
  intro j hj
  by_cases e16 : j = 16
  · have := h.2.2
    rw [← e16, Array.getElem?_eq_getElem hj] at this
    rw [Option.some.inj this]; rfl
  · obtain ⟨b, a, n, c, q1, q2, _⟩ := h.2.1 (j / 2) (by omega)
    by_cases e : j % 2 = 0
    · rw [show j / 2 * 2 = j by omega, Array.getElem?_eq_getElem hj] at q1; rw [Option.some.inj q1]; rfl
    · rw [show j / 2 * 2 + 1 = j by omega, Array.getElem?_eq_getElem hj] at q2; rw [Option.some.inj q2]; rfl
/-- Block g, which is none of digits, alone has turned. -/
structure ChZ (g : Nat) (w w' : World) : Prop where
  os : w'.os = w.os
  tape : w'.tape = w.tape
  output : w'.output = w.output
  size : w.heap.size ≤ w'.heap.size
  block : ∀ k, k ≠ g → k < w.heap.size → w'.heap[k]? = w.heap[k]?
theorem ChZ.of_only {g : Nat} {w w' : World} (h : Only g w w') : ChZ g w w' := ⟨h.os, h.tape, h.output, by rw [h.size]; exact Nat.le_refl _, fun i hi _ => h.block i hi⟩
theorem ChZ.ext {g : Nat} {a b c : World} (h : Ext a b) (k : ChZ g b c) (hg : a.heap.size ≤ g) : Ext a c :=
  ⟨k.os.trans h.os, k.tape.trans h.tape, k.output.trans h.output, Nat.le_trans h.size k.size, fun i hi => (k.block i (by omega) (Nat.lt_of_lt_of_le hi h.size)).trans (h.block i hi)⟩
theorem ChZ.row {g : Nat} {w w' : World} (c : ChZ g w w') {k : Nat} {o : Obj} (h : w.heap[k]? = some o) (hne : k ≠ g) : w'.heap[k]? = some o := (c.block k hne (Array.getElem?_eq_some_iff.1 h).1).trans h
/-- A block that holds no digits. -/
def NoI (w : World) (g : Nat) : Prop := ∃ (cs : Array Value) (t : TypeId) (fr : Nat × Nat), w.heap[g]? = some (.cells cs t fr) ∧ t ≠ 3
theorem IsZ.chz {w w' : World} {b : Bool} {a : Option Addr} {n c : Nat} {z : Int} {g : Nat} (h : IsZ Qc w b a n c z) (k : ChZ g w w') (hg : NoI w g) : IsZ Qc w' b a n c z := by
  obtain ⟨l, h1, h2, h3, h4, h5, h6, h7, h8, h9⟩ := h
  refine ⟨l, h1, h2, h3, ?_, h5, h6, h7, h8, h9.grow k.size⟩
  rcases h4 with h4 | ⟨bb, o, rfl, hb, hc⟩
  · exact Or.inl h4
  · have hne : bb ≠ g := by
      rintro rfl
      obtain ⟨cs, t, fr, e1, e2⟩ := hg
      obtain ⟨cur, fr', e3⟩ := hb
      rw [e1] at e3
      injection e3 with e3
      injection e3 with _ e4 _
      exact e2 e4
    have hblk := k.block bb hne hb.lt
    exact Or.inr ⟨bb, o, rfl, hb.block hblk, fun t ht => (World.cell?_of_block (a := ⟨bb, o + t, none⟩) hblk).trans (hc t ht)⟩
theorem ZCs.chz {w w' : World} {cs : Array Value} {f : Nat → Int} {e : Int} {g : Nat} (h : ZCs Qc w cs f e) (k : ChZ g w w') (hg : NoI w g) : ZCs Qc w' cs f e :=
  ⟨h.1, fun i hi => by obtain ⟨b, a, n, c, q1, q2, q3⟩ := h.2.1 i hi; exact ⟨b, a, n, c, q1, q2, q3.chz k hg⟩, h.2.2⟩
/-- A variable of type R. -/
def ZVar (Qc : Nat → Prop) (w : World) (g : Nat) (f : Nat → Int) (e : Int) : Prop := ∃ cs, w.heap[g]? = some (.cells cs 59 (0, 0)) ∧ ZCs Qc w cs f e
theorem ZVar.lt {w : World} {g : Nat} {f : Nat → Int} {e : Int} (h : ZVar Qc w g f e) : g < w.heap.size := by
  obtain ⟨cs, h1, _⟩ := h
  exact (Array.getElem?_eq_some_iff.1 h1).1
theorem ZVar.no {w : World} {g : Nat} {f : Nat → Int} {e : Int} (h : ZVar Qc w g f e) : NoI w g := by
  obtain ⟨cs, h1, _⟩ := h
  exact ⟨cs, _, _, h1, by decide⟩
theorem ZVar.ext {w w' : World} {g : Nat} {f : Nat → Int} {e : Int} (h : ZVar Qc w g f e) (k : Ext w w') : ZVar Qc w' g f e := by
  have hl := h.lt
  obtain ⟨cs, h1, h2⟩ := h
  exact ⟨cs, (k.block _ hl).trans h1, h2.ext k⟩
theorem ZVar.congr {w : World} {g : Nat} {f f' : Nat → Int} {e : Int} (h : ZVar Qc w g f e) (k : ∀ i, i < 8 → f i = f' i) : ZVar Qc w g f' e := by
  obtain ⟨cs, h1, h2⟩ := h
  exact ⟨cs, h1, h2.congr k⟩
theorem ZVar.chz {w w' : World} {g k : Nat} {f : Nat → Int} {e : Int} (h : ZVar Qc w k f e) (c : ChZ g w w') (hg : NoI w g) (hne : k ≠ g) : ZVar Qc w' k f e := by
  obtain ⟨cs, h1, h2⟩ := h
  exact ⟨cs, c.row h1 hne, h2.chz c hg⟩
theorem ZVar.get {w : World} {g : Nat} {f : Nat → Int} {e : Int} (h : ZVar Qc w g f e) (i : Nat) (hi : i < 8) : ∃ (b : Bool) (a : Option Addr) (n c : Nat),
    w.cell? ⟨g, i * 2, none⟩ = some (.bool b) ∧ w.cell? ⟨g, i * 2 + 1, none⟩ = some (.slice a n c) ∧ w.frozen? ⟨g, i * 2, none⟩ = false ∧ w.frozen? ⟨g, i * 2 + 1, none⟩ = false ∧ IsZ Qc w b a n c (f i) := by
  obtain ⟨cs, h1, h2⟩ := h
  obtain ⟨b, a, n, c, q1, q2, q3⟩ := h2.2.1 i hi
  refine ⟨b, a, n, c, ?_, ?_, frozen_of_row w g _ _ _ h1, frozen_of_row w g _ _ _ h1, q3⟩
  · rw [cell_of_row w g _ _ _ (0, 0) h1]; exact q1
  · rw [cell_of_row w g _ _ _ (0, 0) h1]; exact q2
theorem ZVar.gete {w : World} {g : Nat} {f : Nat → Int} {e : Int} (h : ZVar Qc w g f e) : w.cell? ⟨g, 16, none⟩ = some (.int .i64 e) ∧ w.frozen? ⟨g, 16, none⟩ = false := by
  obtain ⟨cs, h1, h2⟩ := h
  exact ⟨by rw [cell_of_row w g _ _ _ (0, 0) h1]; exact h2.2.2, frozen_of_row w g _ _ _ h1⟩
theorem put2_only (w : World) (g i j : Nat) (u v : Value) : Only g w ((w.setCell ⟨g, i, none⟩ u).setCell ⟨g, j, none⟩ v) := ((Only.refl _ _).setCell _ _).setCell _ _
theorem ZVar.set {w : World} {g : Nat} {f : Nat → Int} {e : Int} (h : ZVar Qc w g f e) (i : Nat) (hi : i < 8) {b' : Bool} {a' : Option Addr} {n' c' : Nat} {z : Int} (hI : IsZ Qc w b' a' n' c' z) :
    ZVar Qc ((w.setCell ⟨g, i * 2, none⟩ (.bool b')).setCell ⟨g, i * 2 + 1, none⟩ (.slice a' n' c')) g (updN f i z) e ∧ ChZ g w ((w.setCell ⟨g, i * 2, none⟩ (.bool b')).setCell ⟨g, i * 2 + 1, none⟩ (.slice a' n' c')) := by
  have hno := h.no
  have hch : ChZ g w ((w.setCell ⟨g, i * 2, none⟩ (.bool b')).setCell ⟨g, i * 2 + 1, none⟩ (.slice a' n' c')) := ChZ.of_only (put2_only w g _ _ _ _)
  obtain ⟨cs, h1, h2⟩ := h
  have hsz := h2.1
  have e1 := heap_setCell_same w g (i * 2) _ _ (.bool b') h1
  have e2 := heap_setCell_same (w.setCell ⟨g, i * 2, none⟩ (.bool b')) g (i * 2 + 1) _ _ (.slice a' n' c') e1
  refine ⟨⟨_, e2, by simp [hsz], fun j hj => ?_, ?_⟩, hch⟩
  · by_cases hji : j = i
    · subst hji
      refine ⟨b', a', n', c', ?_, ?_, ?_⟩
      · rw [Array.getElem?_setIfInBounds_ne (by omega), Array.getElem?_setIfInBounds_self_of_lt (by omega)]
      · rw [Array.getElem?_setIfInBounds_self_of_lt (by simp; omega)]
      · unfold updN; rw [if_pos rfl]; exact hI.chz hch hno
    · obtain ⟨s, a, n, c, q1, q2, q3⟩ := h2.2.1 j hj
      refine ⟨s, a, n, c, ?_, ?_, ?_⟩
      · rw [Array.getElem?_setIfInBounds_ne (by omega), Array.getElem?_setIfInBounds_ne (by omega)]; exact q1
      · rw [Array.getElem?_setIfInBounds_ne (by omega), Array.getElem?_setIfInBounds_ne (by omega)]; exact q2
      · unfold updN; rw [if_neg hji]; exact q3.chz hch hno
  · rw [Array.getElem?_setIfInBounds_ne (by omega), Array.getElem?_setIfInBounds_ne (by omega)]; exact h2.2.2
theorem ZVar.sete {w : World} {g : Nat} {f : Nat → Int} {e : Int} (h : ZVar Qc w g f e) (e' : Int) : ZVar Qc (w.setCell ⟨g, 16, none⟩ (.int .i64 e')) g f e' ∧ ChZ g w (w.setCell ⟨g, 16, none⟩ (.int .i64 e')) := by
  have hno := h.no
  have hch : ChZ g w (w.setCell ⟨g, 16, none⟩ (.int .i64 e')) := ChZ.of_only ((Only.refl _ _).setCell _ _)
  obtain ⟨cs, h1, h2⟩ := h
  have hsz := h2.1
  have e1 := heap_setCell_same w g 16 _ _ (.int .i64 e') h1
  refine ⟨⟨_, e1, by simp [hsz], fun j hj => ?_, ?_⟩, hch⟩
  · obtain ⟨s, a, n, c, q1, q2, q3⟩ := h2.2.1 j hj
    refine ⟨s, a, n, c, ?_, ?_, q3.chz hch hno⟩
    · rw [Array.getElem?_setIfInBounds_ne (by omega)]; exact q1
    · rw [Array.getElem?_setIfInBounds_ne (by omega)]; exact q2
  · rw [Array.getElem?_setIfInBounds_self_of_lt (by omega)]
theorem ZCs.box {w : World} {cs : Array Value} {f : Nat → Int} {e : Int} (h : ZCs Qc w cs f e) : ZVar Qc (w.alloc (.cells cs 59)) w.heap.size f e := ⟨cs, heap_alloc_new w _, h.ext (Ext.alloc _ _)⟩
theorem ZCs.setRow {w : World} {g : Nat} {cs : Array Value} {f f0 : Nat → Int} {e e0 : Int} (h : ZCs Qc w cs f e) (h0 : ZVar Qc w g f0 e0) : ZVar Qc (w.setRow g cs) g f e ∧ ChZ g w (w.setRow g cs) ∧ (w.setRow g cs).heap[g]? = some (.cells cs 59 (0, 0)) ∧ ZCs Qc (w.setRow g cs) cs f e := by
  have hno := h0.no
  have hch : ChZ g w (w.setRow g cs) := ChZ.of_only (setRow_only w g cs)
  obtain ⟨c0, hr, _⟩ := h0
  have hrow := setRow_heap w g _ cs _ (0, 0) hr
  exact ⟨⟨cs, hrow, h.chz hch hno⟩, hch, hrow, h.chz hch hno⟩
abbrev zeroR : Array Value := #[.bool false, .slice none 0 0, .bool false, .slice none 0 0, .bool false, .slice none 0 0, .bool false, .slice none 0 0, .bool false, .slice none 0 0, .bool false, .slice none 0 0, .bool false, .slice none 0 0, .bool false, .slice none 0 0, .int .i64 0]
theorem zcs_zero (w : World) : ZCs Qc w zeroR (fun _ => 0) 0 := by
  refine ⟨rfl, fun i hi => ⟨false, none, 0, 0, ?_, ?_, IsZ.zero w⟩, rfl⟩
  all_goals
    have e : i = 0 ∨ i = 1 ∨ i = 2 ∨ i = 3 ∨ i = 4 ∨ i = 5 ∨ i = 6 ∨ i = 7 := by omega
    rcases e with rfl | rfl | rfl | rfl | rfl | rfl | rfl | rfl <;> rfl
theorem zR_info : (Tryd.prog.info? 59).map (·.size) = some 17 := by kernel_rfl
theorem IsZ.nil_iff {w : World} {b : Bool} {a : Option Addr} {n c : Nat} {z : Int} (h : IsZ Qc w b a n c z) : n = 0 ↔ z = 0 := by
  obtain ⟨l, h1, _, _, _, _, h6, h7, _⟩ := h
  constructor
  · intro h0
    have : l = [] := List.eq_nil_of_length_eq_zero (by omega)
    subst this
    rw [h7]; cases b <;> rfl
  · intro h0
    by_cases hl : l = []
    · rw [← h1, hl]; rfl
    · have h8 := zval_ge h6 hl
      have h9 : 0 < 10000 ^ (l.length - 1) := Nat.pow_pos (by decide)
      rw [h0] at h7
      cases b
      · simp only [Bool.false_eq_true, if_false] at h7; omega
      · simp only [if_true] at h7; omega
/-- How many digits there may be. -/
theorem IsZ.bits {w : World} {b : Bool} {a : Option Addr} {n c : Nat} {z : Int} (h : IsZ Qc w b a n c z) {P : Nat} (hz : z.natAbs < 2 ^ P) : n ≤ P :=
  h.len_of (Nat.lt_of_lt_of_le hz (Nat.pow_le_pow_left (by decide) P))

/-- The cells of the reference's number that stands for x. -/
structure RmA (Qc : Nat → Prop) (w : World) (cs : Array Value) (x : Nm) (P E : Nat) : Prop where
  anti : Anti x.a
  low : Low x
  abs : ∀ k, (x.a k).natAbs < 2 ^ P
  down : x.e ≤ E
  val : ZCs Qc w cs (fun i => x.a i) (x.e : Int)
theorem RmA.ext {w w' : World} {cs : Array Value} {x : Nm} {P E : Nat} (h : RmA Qc w cs x P E) (k : Ext w w') : RmA Qc w' cs x P E := ⟨h.anti, h.low, h.abs, h.down, h.val.ext k⟩
theorem RmA.size {w : World} {cs : Array Value} {x : Nm} {P E : Nat} (h : RmA Qc w cs x P E) : cs.size = 17 := h.val.1
theorem RmA.info {w : World} {cs : Array Value} {x : Nm} {P E : Nat} (h : RmA Qc w cs x P E) : (Tryd.prog.info? 59).map (·.size) = some cs.size := by rw [h.size]; exact zR_info
/-- A number is written into the result's variable and answered. -/
theorem fin_rm {w w1 : World} {cr : Array Value} {f : Nat → Int} {e : Int} {g : Nat} {fz : Nat → Int} {ez : Int} (hcr : ZCs Qc w1 cr f e) (hz : ZVar Qc w1 g fz ez) (hE : Ext w w1) (hg : w.heap.size ≤ g) :
    ∃ c1, w1.heap[g]? = some (.cells c1 59 (0, 0)) ∧ c1.size = cr.size ∧ cr.all (·.oneCell') = true ∧ (Tryd.prog.info? 59).map (·.size) = some cr.size ∧ (w1.setRow g cr).heap[g]? = some (.cells cr 59 (0, 0)) ∧ ZCs Qc (w1.setRow g cr) cr f e ∧ Ext w (w1.setRow g cr) := by
  obtain ⟨n1, ch, rr, zz⟩ := hcr.setRow hz
  obtain ⟨c1, hr1, hc1⟩ := hz
  exact ⟨c1, hr1, by rw [hc1.1, hcr.1], hcr.one, by rw [hcr.1]; exact zR_info, rr, zz, ch.ext hE hg⟩
end Go.Proofs.YtlmfhopifggeaaaDoor
namespace Go.Proofs.YtlmfhopifggeaaaDoor
open Go.RowKit

theorem exec_load_row {P : Program} {ρ : Operand → Value} {o : Oper} {w : World} (ty : TypeId) (x : Operand) (ho : o.op = .load ty x) (g : Nat) (hx : ρ x = .pointer (some ⟨g, 0, none⟩)) (t : TypeId) (cs : Array Value) (fr : Nat × Nat) (d : TypeDesc) (hg : w.heap[g]? = some (.cells cs t fr))
    (hu : P.underlying ty = some d) (hd : (match d with | .struct _ | .array _ _ => true | _ => false) = true) (hi : (P.info? ty).map (·.size) = some cs.size) : (execOp ρ o).run P w = .ok (.value (.agg cs)) w := by
  unfold execOp
  simp only [ho, hx, Instr.loadAt, Instr.sureAddr, Sem.run_bind, Sem.run_pure, Result.andThen_ok, run_loadVar_row w g t ty cs fr d hg hu hd hi]
theorem stepK_storeR {ops : Array Oper} {o : Oper} {a : Act} {K : Act → World → Prop} {Q : Exit → Act → World → Prop} {E : Prop} {w : World} (hgd : o.guard = none) (hd : o.dst = none) (ty : TypeId) (p x : Operand)
    (ho : o.op = .store ty p x) (g : Nat) (cells : Array Value) (hp : a.eval p = .pointer (some ⟨g, 0, none⟩)) (hx : a.eval x = .agg cells) (t : TypeId) (old : Array Value) (hg : w.heap[g]? = some (.cells old t (0, 0)))
    (hi : (Tryd.prog.info? ty).map (·.size) = some cells.size) (hold : old.size = cells.size) (h1 : cells.all (·.oneCell') = true) (h : K a (w.setRow g cells)) :
    if Region.wanted o (yielded ops a.tmps) = true then Oper.wp Tryd.prog o a w K Q else E := by
  have hw : Region.wanted o (yielded ops a.tmps) = true := by simp [Region.wanted, hgd]
  rw [if_pos hw]
  refine wp_store_row ty p x ho g cells hp hx t old hg hi hold h1 ?_
  rw [hd]
  exact h

/-- The integer z. -/
def nOf (z : Int) : Nm := ⟨mono 0 z, 0⟩
theorem mono_abs (k n j : Int) : (mono k n j).natAbs ≤ n.natAbs := by unfold mono; repeat (split); all_goals omega
theorem nOf_one : nOf 1 = nOne := by
  unfold nOf nOne
  rw [mono_tr]
  congr 1
  funext k
  unfold trR
  rw [Int.sub_zero]

end Go.Proofs.YtlmfhopifggeaaaDoor
namespace Go.Proofs.YtlmfhopifggeaaaDoor
variable {Qc : Nat → Prop}
open Go.RowKit

set_option maxRecDepth 100000 in
set_option maxHeartbeats 4000000 in
theorem QZero_any (cs : Array Value) (f : Nat → Int) (e : Int) (w : World) (h : ZCs Qc w cs f e) (B : Bool) (hB : B = true ↔ zeroN f) :
    Calls Tryd.prog 58 #[.agg cs] w fun r w' => r = .returned (.bool B) ∧ Ext w w' := by
  have h0 := h.box
  have E0 := Ext.alloc w (.cells cs 59)
  obtain ⟨H, hH⟩ : ∃ H, w.heap.size = H := ⟨_, rfl⟩
  obtain ⟨U, hU⟩ : ∃ U, w.alloc (.cells cs 59) = U := ⟨_, rfl⟩
  rw [hU, hH] at h0
  rw [hU] at E0
  have HV := Lib.hid h0; have HE := Lib.hid E0; have HB := Lib.hid hB; have HU := Lib.hid hU; have HH := Lib.hid hH
  clear h hB h0 E0 hU hH
  go_enter Tryd.func58, Tryd.ntmps58
  go_wp2_with fail
  rw [HU.out, HH.out]
  clear HU
  go_loopg [3] 8 (fun kk s3 wr => ∃ j : Nat, s3 = .int .i64 (j : Int) ∧ j ≤ 8 ∧ 8 - j = kk ∧ (∀ i, i < j → f i = 0) ∧ ZVar Qc wr H f e ∧ Ext w wr)
  case atStart => exact ⟨0, rfl, by omega, by omega, fun i hi => by omega, HV.out, HE.out⟩
  case round =>
    clear HV HE
    obtain ⟨j, rfl, hj, hjk, hz, hV, hE⟩ := hrel
    obtain ⟨wo, rfl⟩ : ∃ wo : World, wo = wr := ⟨_, rfl⟩
    have Hz := Lib.hid hz; have HV := Lib.hid hV; have HE := Lib.hid hE; have Hjk := Lib.hid hjk
    clear hz hV hE hjk
    by_cases hj8 : j = 8
    · subst hj8
      have HBt := Lib.hid (HB.out.2 Hz.out)
      go_wp2_with fail
      go_ret
      exact ⟨congrArg (fun b => Ending.returned (Value.bool b)) HBt.out.symm, HE.out⟩
    have hlt : j < 8 := by omega
    have q1 : (j : Int) < 8 := by omega
    have q0 : (0 : Int) ≤ (j : Int) := by omega
    have wk : IntKind.i64.wrap ((j : Int) + 1) = ((j + 1 : Nat) : Int) := by rw [IntKind.wrap_i64]; omega
    have Hj1 := Lib.hid (show j + 1 ≤ 8 by omega)
    have Hlt := Lib.hid hlt
    obtain ⟨b, a, n, c, y0, y1, _, _, hI⟩ := HV.out.get j hlt
    have hiff := hI.nil_iff
    clear hI hj8 hj hlt
    by_cases hn : n = 0
    · have q2 : ¬ (0 : Int) < (n : Int) := by omega
      have Hz' := Lib.hid (show ∀ i, i < j + 1 → f i = 0 from fun i hi => by
        by_cases e : i = j
        · rw [e]; exact hiff.1 hn
        · exact Hz.out i (by omega))
      clear hn hiff
      go_wp2_with fail
      go_roundg (8 - (j + 1))
      case measure => have := Hjk.out; have := Hj1.out; omega
      case rel => exact ⟨j + 1, rfl, Hj1.out, rfl, Hz'.out, HV.out, HE.out⟩
    · have q2 : (0 : Int) < (n : Int) := by omega
      have HBf := Lib.hid (show B = false by
        cases hb : B with
        | false => rfl
        | true => exact absurd (hiff.2 (HB.out.1 hb j Hlt.out)) hn)
      clear hn hiff
      go_wp2_with fail
      go_ret
      exact ⟨congrArg (fun b => Ending.returned (Value.bool b)) HBf.out.symm, HE.out⟩

/-- The first j are turned round. -/
def ngN (f : Nat → Int) (j : Nat) : Nat → Int := fun i => if i < j then -f i else f i
theorem ngN_step (f : Nat → Int) (j i : Nat) : updN (ngN f j) j (-f j) i = ngN f (j + 1) i := by
  unfold updN ngN
  by_cases e : i = j
  · subst e; simp
  · rw [if_neg e]
    by_cases h : i < j
    · rw [if_pos h, if_pos (by omega)]
    · rw [if_neg h, if_neg (by omega)]

set_option maxRecDepth 100000 in
set_option maxHeartbeats 4000000 in
theorem QNeg_nm (ca : Array Value) (x : Nm) (P E : Nat) (w : World) (h : RmA Qc w ca x P E) (hP : P ≤ 400000) :
    Calls Tryd.prog 64 #[.agg ca] w fun r w' => ∃ cr : Array Value, r = .returned (.agg cr) ∧ RmA Qc w' cr (nNeg x) P E ∧ Ext w w' := by
  obtain ⟨f, hf⟩ : ∃ f : Nat → Int, (fun i : Nat => x.a i) = f := ⟨_, rfl⟩
  have hv := h.val
  rw [hf] at hv
  have hff : ∀ i : Nat, f i = x.a i := fun i => by rw [← hf]
  obtain ⟨H, hH⟩ : ∃ H, w.heap.size = H := ⟨_, rfl⟩
  obtain ⟨U, hU⟩ : ∃ U, (w.alloc (.cells ca 59)).alloc (.cells zeroR 59) = U := ⟨_, rfl⟩
  have E0 : Ext w U := by rw [← hU]; exact (Ext.alloc _ _).trans (Ext.alloc _ _)
  have V0 : ZVar Qc U H (ngN f 0) (x.e : Int) := by rw [← hU, ← hH]; exact (hv.box.ext (Ext.alloc _ _)).congr fun i _ => by simp [ngN]
  have Z0 : ZVar Qc U (H + 1) (fun _ => 0) 0 := by
    have := (zcs_zero (Qc := Qc) (w.alloc (.cells ca 59))).box
    rw [← hU, ← hH]
    simpa using this
  have HU := Lib.hid hU; have HH := Lib.hid hH; have Hx := Lib.hid h; have Hff := Lib.hid hff; have HP := Lib.hid hP
  have Hst := Lib.hid (show ZVar Qc U H (ngN f 0) (x.e : Int) ∧ ZVar Qc U (H + 1) (fun _ => 0) 0 ∧ Ext w U from ⟨V0, Z0, E0⟩)
  clear hU hH V0 Z0 E0 h hf hv hff hP
  go_enter Tryd.func64, Tryd.ntmps64
  go_wp2_with fail
  rw [HU.out, HH.out]
  clear HU
  go_loopg [3] 8 (fun kk s3 wr => ∃ j : Nat, s3 = .int .i64 (j : Int) ∧ j ≤ 8 ∧ 8 - j = kk ∧ ZVar Qc wr H (ngN f j) (x.e : Int) ∧ ZVar Qc wr (H + 1) (fun _ => 0) 0 ∧ Ext w wr)
  case atStart => exact ⟨0, rfl, by omega, by omega, Hst.out⟩
  case round =>
    clear Hst
    obtain ⟨j, rfl, hj, hjk, hV, hZ, hE⟩ := hrel
    obtain ⟨wo, rfl⟩ : ∃ wo : World, wo = wr := ⟨_, rfl⟩
    by_cases hj8 : j = 8
    · subst hj8
      obtain ⟨cr, hr, hc⟩ := hV
      have hinf : (Tryd.prog.info? 59).map (·.size) = some cr.size := by rw [hc.1]; exact zR_info
      obtain ⟨c1, hr1, hs1, hone, _, rr, hzz, hE'⟩ := fin_rm hc hZ hE (by rw [HH.out]; omega)
      have Hend := Lib.hid (show RmA Qc (wo.setRow (H + 1) cr) cr (nNeg x) P E ∧ Ext w (wo.setRow (H + 1) cr) from by
        have hx := Hx.out
        refine ⟨⟨hx.anti.neg, ?_, fun k => ?_, hx.down, hzz.congr fun i hi => ?_⟩, hE'⟩
        · rw [← nNeg_tr hx.anti]; exact hx.low.tr 8
        · show (-x.a k).natAbs < 2 ^ P
          rw [Int.natAbs_neg]; exact hx.abs k
        · unfold ngN; rw [if_pos hi, Hff.out]; rfl)
      clear hc hZ hE hzz hE' Hx Hff
      go_wp2_with (first
        | refine wpList_load_row rfl 59 _ rfl H rfl 59 _ (0, 0) _ hr Tryd.underlying59 rfl hinf ?_
        | refine wpList_store_row rfl 59 _ _ rfl (H + 1) cr rfl rfl 59 _ hr1 hinf hs1 hone ?_)
      refine bodyPost_ret (v := .agg cr) ?_ rfl ⟨_, rfl, Hend.out⟩
      exact results_cell_row rfl _ _ (H + 1) _ _ _ _ rfl rr Tryd.underlying59 rfl hinf
    have hlt : j < 8 := by omega
    have q1 : (j : Int) < 8 := by omega
    have q0 : (0 : Int) ≤ (j : Int) := by omega
    have wk : IntKind.i64.wrap ((j : Int) + 1) = ((j + 1 : Nat) : Int) := by rw [IntKind.wrap_i64]; omega
    have Hj1 := Lib.hid (show j + 1 ≤ 8 by omega)
    have Hlt := Lib.hid hlt
    obtain ⟨b, a, n, c, y0, y1, _, _, hI⟩ := hV.get j hlt
    have hI2 := hI.cast (show ngN f j j = f j by simp [ngN])
    have hn : n ≤ P := hI2.bits (by rw [Hff.out]; exact Hx.out.abs j)
    have HNe := Lib.hid (ZNeg_any b a n c (f j) wo hI2 (by have := HP.out; omega))
    have HV := Lib.hid hV; have HZ := Lib.hid hZ; have HE := Lib.hid hE; have Hjk := Lib.hid hjk
    clear hI hI2 hV hZ hE hjk hj8 hj hlt hn
    go_wp2_with fail
    refine HNe.out.mono ?_
    rintro r w2 ⟨b2, a2, n2, c2, rfl, hI2, _, hx2⟩
    have hV2 := HV.out.ext hx2
    obtain ⟨_, _, _, _, z0, z1, fz0, fz1, _⟩ := hV2.get j Hlt.out
    obtain ⟨hs, hch⟩ := hV2.set j Hlt.out hI2
    have Hend := Lib.hid (show ZVar Qc ((w2.setCell ⟨H, j * 2, none⟩ (.bool b2)).setCell ⟨H, j * 2 + 1, none⟩ (.slice a2 n2 c2)) H (ngN f (j + 1)) (x.e : Int) ∧ ZVar Qc ((w2.setCell ⟨H, j * 2, none⟩ (.bool b2)).setCell ⟨H, j * 2 + 1, none⟩ (.slice a2 n2 c2)) (H + 1) (fun _ => 0) 0 ∧ Ext w ((w2.setCell ⟨H, j * 2, none⟩ (.bool b2)).setCell ⟨H, j * 2 + 1, none⟩ (.slice a2 n2 c2)) from
      ⟨hs.congr fun i _ => ngN_step f j i, (HZ.out.ext hx2).chz hch hV2.no (by omega), hch.ext (HE.out.trans hx2) (by rw [HH.out]; exact Nat.le_refl _)⟩)
    clear hs hch hV2 hI2 hx2 HNe HV HZ HE y0 y1
    go_wp2_with fail
    clear z0 z1 fz0 fz1
    generalize (w2.setCell ⟨H, j * 2, none⟩ (.bool b2)).setCell ⟨H, j * 2 + 1, none⟩ (.slice a2 n2 c2) = V at *
    go_roundg (8 - (j + 1))
    case measure => have := Hjk.out; have := Hj1.out; omega
    case rel => exact ⟨j + 1, rfl, Hj1.out, rfl, Hend.out⟩

set_option maxRecDepth 100000 in
set_option maxHeartbeats 4000000 in
theorem QOf_nm (b : Bool) (a : Option Addr) (n c : Nat) (z : Int) (P E : Nat) (w : World) (hI : IsZ Qc w b a n c z) (hz : z.natAbs < 2 ^ P) :
    Calls Tryd.prog 56 #[.agg #[.bool b, .slice a n c]] w fun r w' => ∃ cr : Array Value, r = .returned (.agg cr) ∧ RmA Qc w' cr (nOf z) P E ∧ Ext w w' := by
  obtain ⟨H, hH⟩ : ∃ H, w.heap.size = H := ⟨_, rfl⟩
  obtain ⟨U, hU⟩ : ∃ U, (((w.alloc (.cells #[.bool b, .slice a n c] 56)).alloc (.cells zeroR 59)).alloc (.cells zeroR 59)) = U := ⟨_, rfl⟩
  have E0 : Ext w U := by rw [← hU]; exact ((Ext.alloc _ _).trans (Ext.alloc _ _)).trans (Ext.alloc _ _)
  have B0 : ZBx U H b a n c := by
    have : ZBx (w.alloc (.cells #[.bool b, .slice a n c] 56)) H b a n c := ⟨by rw [← hH]; exact heap_alloc_new w _⟩
    rw [← hU]
    exact this.ext ((Ext.alloc _ _).trans (Ext.alloc _ _))
  have Z1 : ZVar Qc U (H + 1) (fun _ => 0) 0 := by
    have := ((zcs_zero (Qc := Qc) (w.alloc (.cells #[.bool b, .slice a n c] 56))).box).ext (Ext.alloc _ (.cells zeroR 59))
    rw [← hU, ← hH]
    simpa using this
  have Z2 : ZVar Qc U (H + 2) (fun _ => 0) 0 := by
    have := (zcs_zero (Qc := Qc) ((w.alloc (.cells #[.bool b, .slice a n c] 56)).alloc (.cells zeroR 59))).box
    rw [← hU, ← hH]
    simpa using this
  have l0 : U.cell? ⟨H, 0, none⟩ = some (.bool b) := by rw [cell_of_row _ _ _ _ _ _ B0.row]; rfl
  have l1 : U.cell? ⟨H, 1, none⟩ = some (.slice a n c) := by rw [cell_of_row _ _ _ _ _ _ B0.row]; rfl
  obtain ⟨_, _, _, _, y0, y1, fy0, fy1, _⟩ := Z2.get 0 (by decide)
  obtain ⟨hs, hch⟩ := Z2.set 0 (by decide) (hI.ext E0)
  have Z1' := Z1.chz hch Z2.no (by omega)
  have E1 := hch.ext E0 (by rw [hH]; omega)
  obtain ⟨V, hV⟩ : ∃ V, (U.setCell ⟨H + 2, 0 * 2, none⟩ (.bool b)).setCell ⟨H + 2, 0 * 2 + 1, none⟩ (.slice a n c) = V := ⟨_, rfl⟩
  rw [hV] at hs Z1' E1
  simp only [Nat.zero_mul, Nat.zero_add] at hV y0 y1 fy0 fy1
  obtain ⟨cr, hr, hc⟩ := hs
  have hinf : (Tryd.prog.info? 59).map (·.size) = some cr.size := by rw [hc.1]; exact zR_info
  obtain ⟨c1, hr1, hs1, hone, _, rr, hzz, hE'⟩ := fin_rm hc Z1' E1 (by rw [hH]; omega)
  have Hend := Lib.hid (show RmA Qc (V.setRow (H + 1) cr) cr (nOf z) P E ∧ Ext w (V.setRow (H + 1) cr) from
    ⟨⟨anti_mono 0 z, Or.inl rfl, fun k => Nat.lt_of_le_of_lt (mono_abs 0 z k) hz, Nat.zero_le _, hzz.congr fun i hi => by
      show updN (fun _ => 0) 0 z i = mono 0 z i
      by_cases e : i = 0
      · subst e; simp [updN, mono]
      · unfold updN mono
        rw [if_neg e, if_neg (show ¬ ((i : Int) - 0) % 16 = 0 by omega), if_neg (show ¬ ((i : Int) - 0) % 16 = 8 by omega)]⟩, hE'⟩)
  have HU := Lib.hid hU; have HH := Lib.hid hH; have HV := Lib.hid hV
  clear hU hH hV hc Z1 Z2 Z1' E0 E1 hzz hE' hch B0 hI
  go_enter Tryd.func56, Tryd.ntmps56
  go_upto_region 2 with fail
  rw [HU.out, HH.out]
  clear HU HH
  go_upto_region 3 with fail
  rw [HV.out]
  clear HV l0 l1 y0 y1 fy0 fy1
  go_wp2_with (first
    | refine wpList_load_row rfl 59 _ rfl (H + 2) rfl 59 _ (0, 0) _ hr Tryd.underlying59 rfl hinf ?_
    | refine wpList_store_row rfl 59 _ _ rfl (H + 1) cr rfl rfl 59 _ hr1 hinf hs1 hone ?_)
  refine bodyPost_ret (v := .agg cr) ?_ rfl ⟨_, rfl, Hend.out⟩
  exact results_cell_row rfl _ _ (H + 1) _ _ _ _ rfl rr Tryd.underlying59 rfl hinf
end Go.Proofs.YtlmfhopifggeaaaDoor
namespace Go.Proofs.YtlmfhopifggeaaaDoor
variable {Qc : Nat → Prop}
open Go.RowKit

/-- What RTurn has made as far as the n-th. -/
def trzN (f : Nat → Int) (k : Int) : Nat → Nat → Int
  | 0 => fun _ => 0
  | n + 1 => updN (trzN f k n) ((n + k) % 8).toNat (sgK (n + k) (f n))
theorem trzN_at (f : Nat → Int) (k : Int) (p : Nat) (hp : p < 8) : ∀ n, n ≤ 8 → trzN f k n p = if ((p - k) % 8).toNat < n then sgK (((p - k) % 8).toNat + k) (f ((p - k) % 8).toNat) else 0
  | 0, _ => by simp [trzN]
  | n + 1, hn => by
    have ih := trzN_at f k p hp n (by omega)
    simp only [trzN, updN]
    by_cases e : p = ((n + k) % 8).toNat
    · have h1 : ((p - k) % 8).toNat = n := by omega
      rw [if_pos e, h1, if_pos (by omega)]
    · have h1 : ((p - k) % 8).toNat ≠ n := by omega
      rw [if_neg e, ih]
      by_cases h2 : ((p - k) % 8).toNat < n
      · rw [if_pos h2, if_pos (by omega)]
      · rw [if_neg h2, if_neg (by omega)]
theorem ext8_trzN (f : Nat → Int) (k : Int) : ext8 (trzN f k 8) = trR k (ext8 f) := by
  refine (anti_ext8 _).ext ((anti_ext8 f).tr k) fun j h0 h1 => ?_
  rw [ext8_at _ j h0 h1, trzN_at f k j.toNat (by omega) 8 (Nat.le_refl _)]
  have hj : ((j.toNat : Nat) : Int) = j := by omega
  rw [hj, if_pos (by omega)]
  unfold trR ext8 sgK
  by_cases h : (j - k) % 16 < 8
  · rw [if_pos h, if_pos (by omega)]
  · rw [if_neg h, if_neg (by omega)]
theorem trzN_mod (f : Nat → Int) (k k' : Int) (h : k % 16 = k' % 16) : ∀ n, trzN f k n = trzN f k' n
  | 0 => rfl
  | n + 1 => by
    have e1 : ((n : Int) + k) % 8 = ((n : Int) + k') % 8 := by omega
    have e2 : ((n : Int) + k) % 16 = ((n : Int) + k') % 16 := by omega
    simp only [trzN, sgK]
    rw [trzN_mod f k k' h n, e1, e2]
theorem tmod16 (k : Int) : (k.tmod 16 < 0 → k.tmod 16 + 16 = k % 16) ∧ (¬ k.tmod 16 < 0 → k.tmod 16 = k % 16) ∧ -16 < k.tmod 16 ∧ k.tmod 16 < 16 := by
  have h1 := Int.tmod_eq_emod (a := k) (b := 16)
  have h2 : (0 : Int) ≤ k % 16 ∧ k % 16 < 16 := ⟨Int.emod_nonneg _ (by decide), Int.emod_lt_of_pos _ (by decide)⟩
  split at h1 <;> (simp at h1; omega)

/-- As RmA Qc, but the power may be greater than it must be. -/
structure RmW (Qc : Nat → Prop) (w : World) (cs : Array Value) (x : Nm) (P E : Nat) : Prop where
  anti : Anti x.a
  abs : ∀ k, (x.a k).natAbs < 2 ^ P
  down : x.e ≤ E
  val : ZCs Qc w cs (fun i => x.a i) (x.e : Int)
theorem RmA.w {w : World} {cs : Array Value} {x : Nm} {P E : Nat} (h : RmA Qc w cs x P E) : RmW Qc w cs x P E := ⟨h.anti, h.abs, h.down, h.val⟩
theorem RmW.a {w : World} {cs : Array Value} {x : Nm} {P E : Nat} (h : RmW Qc w cs x P E) (hl : Low x) : RmA Qc w cs x P E := ⟨h.anti, hl, h.abs, h.down, h.val⟩
theorem RmW.le {w : World} {cs : Array Value} {x : Nm} {P E P' E' : Nat} (h : RmW Qc w cs x P E) (hP : P ≤ P') (hE : E ≤ E') : RmW Qc w cs x P' E' :=
  ⟨h.anti, fun k => Nat.lt_of_lt_of_le (h.abs k) (Nat.pow_le_pow_right (by decide) hP), Nat.le_trans h.down hE, h.val⟩

set_option maxRecDepth 100000 in
set_option maxHeartbeats 4000000 in
theorem QTurn_w (ca : Array Value) (x : Nm) (P E : Nat) (k : Int) (w : World) (h : RmW Qc w ca x P E) (hP : P ≤ 400000) :
    Calls Tryd.prog 62 #[.agg ca, .int .i64 k] w fun r w' => ∃ cr : Array Value, r = .returned (.agg cr) ∧ RmW Qc w' cr (nTr k x) P E ∧ Ext w w' := by
  obtain ⟨f, hf⟩ : ∃ f : Nat → Int, (fun i : Nat => x.a i) = f := ⟨_, rfl⟩
  have hv := h.val
  rw [hf] at hv
  have hff : ∀ i : Nat, f i = x.a i := fun i => by rw [← hf]
  obtain ⟨kk0, hkk⟩ : ∃ kk0 : Nat, k % 16 = (kk0 : Int) := ⟨(k % 16).toNat, by omega⟩
  obtain ⟨r0, hr0⟩ : ∃ r0, k.tmod 16 = r0 := ⟨_, rfl⟩
  have ht := tmod16 k
  rw [hr0, hkk] at ht
  obtain ⟨H, hH⟩ : ∃ H, w.heap.size = H := ⟨_, rfl⟩
  obtain ⟨U, hU⟩ : ∃ U, (w.alloc (.cells ca 59)).alloc (.cells zeroR 59) = U := ⟨_, rfl⟩
  have E0 : Ext w U := by rw [← hU]; exact (Ext.alloc _ _).trans (Ext.alloc _ _)
  have V0 : ZVar Qc U H f (x.e : Int) := by rw [← hU, ← hH]; exact hv.box.ext (Ext.alloc _ _)
  have Z0 : ZVar Qc U (H + 1) (fun _ => 0) 0 := by
    have := (zcs_zero (Qc := Qc) (w.alloc (.cells ca 59))).box
    rw [← hU, ← hH]
    simpa using this
  have sU : U.heap.size = H + 2 := by rw [← hU, ← hH]; simp
  have HU := Lib.hid hU; have HH := Lib.hid hH; have Hx := Lib.hid h; have Hff := Lib.hid hff; have HP := Lib.hid hP; have HV0 := Lib.hid V0; have HZ0 := Lib.hid Z0; have HE0 := Lib.hid E0; have HsU := Lib.hid sU; have Ht := Lib.hid ht; have Hkk := Lib.hid hkk
  clear hU hH V0 Z0 E0 h hf hv hff hP sU ht hkk
  go_enter Tryd.func62, Tryd.ntmps62
  go_upto_region 1 with fail
  rw [HU.out, HH.out]
  clear HU
  go_upto_if 11 with fail
  go_cut [1] from 11 to 13 (fun s1 wx => s1 = .int .i64 (kk0 : Int) ∧ wx = U)
  case first =>
    by_cases hneg : r0 < 0
    · have wk : IntKind.i64.wrap (r0 + 16) = (kk0 : Int) := by have := Ht.out; rw [IntKind.wrap_i64]; omega
      go_wp2_with fail
      go_meet
      exact ⟨rfl, rfl⟩
    · have Hk0 := Lib.hid (show r0 = (kk0 : Int) from Ht.out.2.1 hneg)
      go_wp2_with fail
      go_meet
      exact ⟨by rw [Hk0.out], rfl⟩
  case rest =>
  obtain ⟨rfl, rfl⟩ := hcut
  clear hr0
  obtain ⟨U, rfl⟩ : ∃ U : World, U = wc := ⟨_, rfl⟩
  have eA := Ext.alloc U (.cells zeroR 59)
  have O0 := (zcs_zero (Qc := Qc) U).box
  rw [HsU.out] at O0
  obtain ⟨U2, hU2⟩ : ∃ U2, U.alloc (.cells zeroR 59) = U2 := ⟨_, rfl⟩
  rw [hU2] at eA O0
  have V2 := HV0.out.ext eA; have Z2 := HZ0.out.ext eA
  have x16 := V2.gete.1
  have y16 := O0.gete.1; have g16 := O0.gete.2
  obtain ⟨hs, hch⟩ := O0.sete (x.e : Int)
  have Hst := Lib.hid (show ZVar Qc (U2.setCell ⟨H + 2, 16, none⟩ (.int .i64 (x.e : Int))) (H + 2) (trzN f kk0 0) (x.e : Int) ∧ ZVar Qc (U2.setCell ⟨H + 2, 16, none⟩ (.int .i64 (x.e : Int))) H f (x.e : Int) ∧ ZVar Qc (U2.setCell ⟨H + 2, 16, none⟩ (.int .i64 (x.e : Int))) (H + 1) (fun _ => 0) 0 ∧ Ext w (U2.setCell ⟨H + 2, 16, none⟩ (.int .i64 (x.e : Int))) from
    ⟨hs, V2.chz hch O0.no (by omega), Z2.chz hch O0.no (by omega), hch.ext (HE0.out.trans eA) (by rw [HH.out]; omega)⟩)
  have HU2 := Lib.hid hU2
  clear hs hch V2 Z2 O0 eA hU2 HV0 HZ0 HE0
  go_upto_region 5 with fail
  rw [HU2.out]
  try rw [HsU.out]
  clear HU2
  go_wp2_with fail
  clear x16 y16 g16
  generalize U2.setCell ⟨H + 2, 16, none⟩ (.int .i64 (x.e : Int)) = V at *
  go_loopg [6, 7] 8 (fun kk s6 s7 wr => ∃ j : Nat, s6 = .int .i64 (j : Int) ∧ j ≤ 8 ∧ 8 - j = kk ∧ ZVar Qc wr (H + 2) (trzN f kk0 j) (x.e : Int) ∧ ZVar Qc wr H f (x.e : Int) ∧ ZVar Qc wr (H + 1) (fun _ => 0) 0 ∧ Ext w wr)
  case atStart => exact ⟨0, rfl, by omega, by omega, Hst.out⟩
  case round =>
    clear Hst
    obtain ⟨j, rfl, hj, hjk, hV, hA, hZ, hE⟩ := hrel
    obtain ⟨wo, rfl⟩ : ∃ wo : World, wo = wr := ⟨_, rfl⟩
    by_cases hj8 : j = 8
    · subst hj8
      obtain ⟨cr, hr, hc⟩ := hV
      have hinf : (Tryd.prog.info? 59).map (·.size) = some cr.size := by rw [hc.1]; exact zR_info
      obtain ⟨c1, hr1, hs1, hone, _, rr, hzz, hE'⟩ := fin_rm hc hZ hE (by rw [HH.out]; omega)
      have Hend := Lib.hid (show RmW Qc (wo.setRow (H + 1) cr) cr (nTr k x) P E ∧ Ext w (wo.setRow (H + 1) cr) from by
        have hx := Hx.out
        refine ⟨⟨hx.anti.tr k, fun i => hx.abs (i - k), hx.down, hzz.congr fun i hi => ?_⟩, hE'⟩
        rw [trzN_mod f kk0 k (by have := Hkk.out; omega)]
        have h2 := congrFun (ext8_trzN f k) (i : Int)
        rw [ext8_at _ _ (by omega) (by omega)] at h2
        have h3 : ext8 f = x.a := by rw [← ext8_of hx.anti]; exact ext8_congr fun i _ => Hff.out i
        rw [h3] at h2
        exact h2)
      clear hc hZ hE hzz hE' hA
      go_wp2_with (first
        | refine wpList_load_row rfl 59 _ rfl (H + 2) rfl 59 _ (0, 0) _ hr Tryd.underlying59 rfl hinf ?_
        | refine wpList_store_row rfl 59 _ _ rfl (H + 1) cr rfl rfl 59 _ hr1 hinf hs1 hone ?_)
      refine bodyPost_ret (v := .agg cr) ?_ rfl ⟨_, rfl, Hend.out⟩
      exact results_cell_row rfl _ _ (H + 1) _ _ _ _ rfl rr Tryd.underlying59 rfl hinf
    have hlt : j < 8 := by omega
    have q1 : (j : Int) < 8 := by omega
    have q0 : (0 : Int) ≤ (j : Int) := by omega
    have wk : IntKind.i64.wrap ((j : Int) + 1) = ((j + 1 : Nat) : Int) := by rw [IntKind.wrap_i64]; omega
    have hk16 : kk0 < 16 := by have := Hkk.out; omega
    have Hj1 := Lib.hid (show j + 1 ≤ 8 by omega)
    obtain ⟨jk, hjkk⟩ : ∃ jk : Nat, j + kk0 = jk := ⟨_, rfl⟩
    have wjk : IntKind.i64.wrap ((j : Int) + (kk0 : Int)) = (jk : Int) := by rw [IntKind.wrap_i64]; omega
    obtain ⟨t, ht⟩ : ∃ t : Nat, jk % 16 = t := ⟨_, rfl⟩
    have tm : (jk : Int).tmod 16 = (t : Int) := by rw [Int.tmod_eq_emod_of_nonneg (by omega)]; omega
    obtain ⟨b, a, n, c, y0, y1, _, _, hI⟩ := hA.get j hlt
    have hn : n ≤ P := hI.bits (by rw [Hff.out]; exact Hx.out.abs j)
    have HV := Lib.hid hV; have HA := Lib.hid hA; have HZ := Lib.hid hZ; have HE := Lib.hid hE; have Hjk := Lib.hid hjk; have HI := Lib.hid hI
    clear hV hA hZ hE hjk hI hj8 hj
    by_cases ht8 : t < 8
    · have q8 : (t : Int) < 8 := by omega
      have q9 : (0 : Int) ≤ (t : Int) := by omega
      obtain ⟨q, rfl⟩ : ∃ q, q = t := ⟨_, rfl⟩
      obtain ⟨_, _, _, _, z0, z1, fz0, fz1, _⟩ := HV.out.get q ht8
      obtain ⟨hs, hch⟩ := HV.out.set q ht8 HI.out
      have Hstep := Lib.hid (show ∀ i, updN (trzN f kk0 j) q (f j) i = trzN f kk0 (j + 1) i from fun i => by
        simp only [trzN]
        rw [show (((j : Int) + (kk0 : Int)) % 8).toNat = q by omega, show sgK ((j : Int) + (kk0 : Int)) (f j) = f j by unfold sgK; rw [if_pos (by omega)]])
      have Hend := Lib.hid (show ZVar Qc ((wo.setCell ⟨H + 2, q * 2, none⟩ (.bool b)).setCell ⟨H + 2, q * 2 + 1, none⟩ (.slice a n c)) (H + 2) (trzN f kk0 (j + 1)) (x.e : Int) ∧ ZVar Qc ((wo.setCell ⟨H + 2, q * 2, none⟩ (.bool b)).setCell ⟨H + 2, q * 2 + 1, none⟩ (.slice a n c)) H f (x.e : Int) ∧ ZVar Qc ((wo.setCell ⟨H + 2, q * 2, none⟩ (.bool b)).setCell ⟨H + 2, q * 2 + 1, none⟩ (.slice a n c)) (H + 1) (fun _ => 0) 0 ∧ Ext w ((wo.setCell ⟨H + 2, q * 2, none⟩ (.bool b)).setCell ⟨H + 2, q * 2 + 1, none⟩ (.slice a n c)) from
        ⟨hs.congr fun i _ => Hstep.out i, HA.out.chz hch HV.out.no (by omega), HZ.out.chz hch HV.out.no (by omega), hch.ext HE.out (by rw [HH.out]; omega)⟩)
      clear hs hch HV HA HZ HE HI hn hk16 hjkk ht ht8
      go_wp2_with fail
      clear z0 z1 fz0 fz1 y0 y1
      generalize ((wo.setCell ⟨H + 2, q * 2, none⟩ (.bool b)).setCell ⟨H + 2, q * 2 + 1, none⟩ (.slice a n c)) = V at *
      go_roundg (8 - (j + 1))
      case measure => have := Hjk.out; have := Hj1.out; omega
      case rel => exact ⟨j + 1, rfl, Hj1.out, rfl, Hend.out⟩
    · have q8 : ¬ (t : Int) < 8 := by omega
      obtain ⟨q, hq⟩ : ∃ q : Nat, t = q + 8 := ⟨t - 8, by omega⟩
      have wq : IntKind.i64.wrap ((t : Int) - 8) = (q : Int) := by rw [IntKind.wrap_i64]; omega
      have hq8 : q < 8 := by omega
      have q9 : (0 : Int) ≤ (q : Int) := by omega
      have q10 : (q : Int) < 8 := by omega
      have HNe := Lib.hid (ZNeg_any b a n c (f j) wo HI.out (by have := HP.out; omega))
      have Hstep := Lib.hid (show ∀ i, updN (trzN f kk0 j) q (-f j) i = trzN f kk0 (j + 1) i from fun i => by
        simp only [trzN]
        rw [show (((j : Int) + (kk0 : Int)) % 8).toNat = q by omega, show sgK ((j : Int) + (kk0 : Int)) (f j) = -f j by unfold sgK; rw [if_neg (by omega)]])
      have Hq8 := Lib.hid hq8
      clear hn hk16 hjkk ht ht8 hq hq8
      go_wp2_with fail
      refine HNe.out.mono ?_
      rintro r w2 ⟨b2, a2, n2, c2, rfl, hI2, _, hx2⟩
      have hV2 := HV.out.ext hx2
      obtain ⟨_, _, _, _, z0, z1, fz0, fz1, _⟩ := hV2.get q Hq8.out
      obtain ⟨hs, hch⟩ := hV2.set q Hq8.out hI2
      have Hend := Lib.hid (show ZVar Qc ((w2.setCell ⟨H + 2, q * 2, none⟩ (.bool b2)).setCell ⟨H + 2, q * 2 + 1, none⟩ (.slice a2 n2 c2)) (H + 2) (trzN f kk0 (j + 1)) (x.e : Int) ∧ ZVar Qc ((w2.setCell ⟨H + 2, q * 2, none⟩ (.bool b2)).setCell ⟨H + 2, q * 2 + 1, none⟩ (.slice a2 n2 c2)) H f (x.e : Int) ∧ ZVar Qc ((w2.setCell ⟨H + 2, q * 2, none⟩ (.bool b2)).setCell ⟨H + 2, q * 2 + 1, none⟩ (.slice a2 n2 c2)) (H + 1) (fun _ => 0) 0 ∧ Ext w ((w2.setCell ⟨H + 2, q * 2, none⟩ (.bool b2)).setCell ⟨H + 2, q * 2 + 1, none⟩ (.slice a2 n2 c2)) from
        ⟨hs.congr fun i _ => Hstep.out i, (HA.out.ext hx2).chz hch hV2.no (by omega), (HZ.out.ext hx2).chz hch hV2.no (by omega), hch.ext (HE.out.trans hx2) (by rw [HH.out]; omega)⟩)
      clear hs hch hV2 hI2 hx2 HNe HV HA HZ HE HI y0 y1
      go_wp2_with fail
      clear z0 z1 fz0 fz1
      generalize ((w2.setCell ⟨H + 2, q * 2, none⟩ (.bool b2)).setCell ⟨H + 2, q * 2 + 1, none⟩ (.slice a2 n2 c2)) = V at *
      go_roundg (8 - (j + 1))
      case measure => have := Hjk.out; have := Hj1.out; omega
      case rel => exact ⟨j + 1, rfl, Hj1.out, rfl, Hend.out⟩
theorem QTurn_nm (ca : Array Value) (x : Nm) (P E : Nat) (k : Int) (w : World) (h : RmA Qc w ca x P E) (hP : P ≤ 400000) :
    Calls Tryd.prog 62 #[.agg ca, .int .i64 k] w fun r w' => ∃ cr : Array Value, r = .returned (.agg cr) ∧ RmA Qc w' cr (nTr k x) P E ∧ Ext w w' := by
  refine (QTurn_w ca x P E k w h.w hP).mono ?_
  rintro r w' ⟨cr, rfl, hw, hx⟩
  exact ⟨cr, rfl, hw.a (h.low.tr k), hx⟩
end Go.Proofs.YtlmfhopifggeaaaDoor
namespace Go.Proofs.YtlmfhopifggeaaaDoor
variable {Qc : Nat → Prop}
open Go.RowKit

set_option maxHeartbeats 2000000 in
set_option maxRecDepth 100000 in
theorem zhalf_two (neg : Bool) (ao : Option Addr) (n c : Nat) (z : Int) (w : World) (h : IsZ Qc w neg ao n c z) (hn : n ≤ 400000) :
    Calls Tryd.prog 90 #[.agg #[.bool neg, .slice ao n c]] w fun e w' => ∃ (b' : Bool) (a' : Option Addr) (n' c' : Nat) (z' : Int) (bo : Bool), e = .returned (.tuple #[.agg #[.bool b', .slice a' n' c'], .bool bo]) ∧ IsZ Qc w' b' a' n' c' z' ∧ Hid (z % 2 = 0 → z' = z / 2) ∧ n' ≤ n ∧ Ext w w' := by
  have Hsg := Lib.hid (show z = if neg = true then -(z.natAbs : Int) else (z.natAbs : Int) from by
    obtain ⟨l0, _, _, _, _, _, _, h7, _⟩ := h
    rw [h7]
    cases neg <;> simp)
  obtain ⟨l, p1, p2, p3, p4, p5, p6, p7, p8, p9⟩ := h.abs
  have hE := (ext_alloc w (.cells #[.bool neg, .slice ao n c] 56)).trans (ext_alloc _ (.cells #[.bool false, .slice none 0 0] 56))
  have bA := (zbx_new w neg ao n c).ext (ext_alloc _ (.cells #[.bool false, .slice none 0 0] 56))
  have hR := zres_new (w.alloc (.cells #[.bool neg, .slice ao n c] 56))
  rw [show (w.alloc (.cells #[.bool neg, .slice ao n c] 56)).heap.size = w.heap.size + 1 from by simp] at hR
  have hA : n = 0 ∨ ∃ b o, ao = some ⟨b, o, none⟩ := by
    by_cases h0 : n = 0
    · exact Or.inl h0
    · exact Or.inr (p4.some_of (by omega))
  have P1 := Lib.hid p1; have P4 := Lib.hid p4; have P5 := Lib.hid p5; have P7 := Lib.hid p7; have P9 := Lib.hid p9.2
  have x0 := bA.c0; have x1 := bA.c1
  clear p1 p2 p3 p4 p5 p6 p7 p8 p9 h
  go_enter Tryd.func90, Tryd.ntmps90
  go_wp2_with (at_make; refine wpList_make_irow _ rfl _ _ rfl _ _ _ _ n rfl rfl (by omega) (by omega) (by omega) ?_; intro w1 hr1 he1 hz1; have d1 := zKeep he1 bA.lt x1)
  have hWB : ((w.alloc (.cells #[.bool neg, .slice ao n c] 56)).alloc (.cells #[.bool false, .slice none 0 0] 56)).heap.size = w.heap.size + 1 + 1 := by simp
  generalize (w.alloc (.cells #[.bool neg, .slice ao n c] 56)).alloc (.cells #[.bool false, .slice none 0 0] 56) = WB at *
  rw [hWB] at hr1
  have HWB := Lib.hid hWB
  clear hWB d1
  go_loopw [5, 6] (fun cv iv wr => ∃ (k c : Nat) (D : List Nat), k ≤ n ∧ iv = .int .i64 ((k : Int) - 1) ∧ cv = .int .i64 c ∧ c ≤ 1 ∧ D.length = n ∧ ZD D ∧ IRow wr (w.heap.size + 1 + 1) D ∧ zval (D.drop k) * 2 + c = zval (l.drop k) ∧ Ext WB wr) (fun _ iv _ => (intOf iv + 1).toNat)
  case atStart => exact ⟨n, 0, List.replicate n 0, Nat.le_refl _, by go_num, rfl, by omega, by simp, ZD.replicate _, hr1, by rw [List.drop_of_length_le (by simp), List.drop_of_length_le (by rw [P1.out]; exact Nat.le_refl _)]; rfl, he1⟩
  case round =>
    clear hr1 he1 hz1
    obtain ⟨k, cc, D, hk, rfl, rfl, hc1, hD, hdD, hrD, hinv, hEr⟩ := hrel
    have HD := Lib.hid hD; have HdD := Lib.hid hdD; have HrD := Lib.hid hrD; have Hinv := Lib.hid hinv; have HEr := Lib.hid hEr
    have d0 := zKeep hEr bA.lt x0; have d1 := zKeep hEr bA.lt x1
    clear hD hdD hrD hinv hEr
    by_cases hk0 : k = 0
    · subst hk0
      have hv : zval D * 2 + cc = zval l := by have := Hinv.out; rwa [List.drop_zero, List.drop_zero] at this
      obtain ⟨z', hz'⟩ : ∃ z' : Int, z' = if neg = true then -(zval D : Int) else (zval D : Int) := ⟨_, rfl⟩
      have Hz' : Hid (z % 2 = 0 → z' = z / 2) := by
        show z % 2 = 0 → z' = z / 2
        have h7 := P7.out; have h8 := Hsg.out
        rw [hz']
        cases neg
        · simp only [Bool.false_eq_true, if_false] at h8 ⊢; omega
        · simp only [if_true] at h8 ⊢; omega
      have HCm : z' = 0 ∨ LimQ Qc w := P9.out.imp (fun h => by
        have h1 : zval D = 0 := by
          have := P7.out
          rw [h] at this
          simp at this
          omega
        rw [hz', h1]; split <;> rfl) And.left
      have Hm := Lib.hid (fun wx (hx : IRow wx (w.heap.size + 1 + 1) D) => zmade_any neg (some ⟨w.heap.size + 1 + 1, 0, none⟩) D n n wx HD.out hx.seg HdD.out (Nat.le_refl _) (by unfold maxLen; omega) (by omega) z' hz' (HCm.imp id fun h => ⟨h.grow (by have := hx.lt; omega), fun x hx => by cases hx; exact h _ (by show w.heap.size ≤ w.heap.size + 1 + 1; omega)⟩))
      clear hv hz'
      go_wp2_with fail
      refine (Hm.out _ HrD.out).mono ?_
      rintro e w9 ⟨b', a', n', c', rfl, hI, hle, hx9⟩
      have hR9 := hR.ext (HEr.out.trans hx9)
      have k0 := hR9.c0; have k1 := hR9.c1; have f0 := hR9.f 0; have f1 := hR9.f 1
      go_wp2_with fail
      exact bodyPost_ret (v := .tuple #[.agg #[.bool b', .slice a' n' c'], .bool (decide ((0 : Int) < (cc : Int)))]) (by simp [results, Tryd.results90, go_sem, k0, k1]) rfl ⟨b', a', n', c', z', _, rfl, hI.keepRes hR9.row _ _, Hz', hle, zput2 (hE.trans (HEr.out.trans hx9)) (by omega) _ _⟩
    · obtain ⟨j, rfl⟩ : ∃ j, k = j + 1 := ⟨k - 1, by omega⟩
      have ec : (((j + 1 : Nat) : Int) - 1) = (j : Int) := by omega
      have ij : (j : Int) < (n : Int) := by omega
      rcases hA with h0 | ⟨b, o, rfl⟩
      · omega
      have hcl := (P4.out.ext (hE.trans HEr.out)).at j (by rw [P1.out]; omega)
      obtain ⟨x, hx⟩ : ∃ x, l.getD j 0 = x := ⟨_, rfl⟩
      have hx4 : x < 10000 := by rw [← hx]; exact P5.out.get j
      rw [hx] at hcl
      have hcM := HrD.out.cell j (by rw [HD.out]; omega)
      have hfz := HrD.out.frozen j
      obtain ⟨yy, hyy⟩ : ∃ yy, D.getD j 0 = yy := ⟨_, rfl⟩
      rw [hyy] at hcM
      obtain ⟨d, hd⟩ : ∃ d, (cc * 10000 + x) / 2 = d := ⟨_, rfl⟩
      obtain ⟨c2, hc2⟩ : ∃ c2, (cc * 10000 + x) % 2 = c2 := ⟨_, rfl⟩
      have Hst := Lib.hid (zhalf_step (by rw [HD.out]; omega) (by rw [P1.out]; omega) hx rfl hd hc2 Hinv.out)
      have hd4 : d < 10000 := by omega
      have hc21 : c2 ≤ 1 := by omega
      have t1 : ((cc : Int) * 10000 + (x : Int)).tdiv 2 = (d : Int) := by rw [Int.tdiv_eq_ediv_of_nonneg (by omega)]; omega
      have t2 : ((cc : Int) * 10000 + (x : Int)).tmod 2 = (c2 : Int) := by rw [Int.tmod_eq_emod_of_nonneg (by omega)]; omega
      rw [ec]
      clear hx hd hc2 hk0 ec hyy
      go_wp2_with fail
      go_roundw
      case rel => exact ⟨j, c2, D.set j d, by omega, by go_num, rfl, hc21, by rw [List.length_set]; exact HD.out, HdD.out.set _ _ hd4, HrD.out.set _ _, Hst.out, Below.setCell HEr.out (by rw [HWB.out]; exact Nat.le_refl _) _⟩
      case measure => simp [intOf]

end Go.Proofs.YtlmfhopifggeaaaDoor
namespace Go.Proofs.YtlmfhopifggeaaaDoor
variable {Qc : Nat → Prop}
open Go.RowKit

/-- The first j are halved. -/
def hvN (f : Nat → Int) (j : Nat) : Nat → Int := fun i => if i < j then f i / 2 else f i
theorem hvN_step (f : Nat → Int) (j i : Nat) : updN (hvN f j) j (f j / 2) i = hvN f (j + 1) i := by
  unfold updN hvN
  by_cases e : i = j
  · subst e; simp
  · rw [if_neg e]
    by_cases h : i < j
    · rw [if_pos h, if_pos (by omega)]
    · rw [if_neg h, if_neg (by omega)]
/-- What f over 2^d comes to, the same for g over 2^e. -/
def SameN (f : Nat → Int) (d : Nat) (g : Nat → Int) (e : Nat) : Prop := EqN ⟨ext8 g, e⟩ ⟨ext8 f, d⟩
theorem same_half {f g : Nat → Int} {d e : Nat} (h : SameN f d g (e + 1)) (hev : ∀ i, i < 8 → g i % 2 = 0) : SameN f d (hvN g 8) e := by
  refine EqN.trans ?_ h
  intro k
  have h1 : ext8 g k = ext8 (hvN g 8) k * 2 := ext8_scale (f := g) (V := hvN g 8) (c := 2) (fun i hi => by have := hev i hi; unfold hvN; rw [if_pos hi]; omega) k
  show ext8 (hvN g 8) k * 2 ^ (e + 1) = ext8 g k * 2 ^ e
  rw [h1, Int.pow_succ]
  simp only [Int.mul_assoc, Int.mul_comm]
  simp only [Int.mul_left_comm]
theorem same_zero {f g : Nat → Int} {d e : Nat} (h : SameN f d g e) (hz : zeroN g) : SameN f d (fun _ => 0) 0 := by
  refine EqN.trans ?_ h
  intro k
  have e1 : ext8 g = ext8 fun _ => 0 := ext8_congr fun i hi => hz i hi
  show ext8 (fun _ => 0) k * 2 ^ e = ext8 g k * 2 ^ 0
  rw [e1, ext8_zero]; simp

set_option maxRecDepth 100000 in
set_option maxHeartbeats 4000000 in
theorem Qleast_any (ca : Array Value) (f : Nat → Int) (d : Nat) (w : World) (h : ZCs Qc w ca f (d : Int)) (P E : Nat) (hP : P ≤ 400000) (hA : ∀ i, i < 8 → (f i).natAbs < 2 ^ P) (hd : d ≤ E) (hE : E ≤ 1099511627776) :
    Calls Tryd.prog 78 #[.agg ca] w fun r w' => ∃ (cr : Array Value) (y : Nm), r = .returned (.agg cr) ∧ RmA Qc w' cr y P E ∧ EqN y ⟨ext8 f, d⟩ ∧ Ext w w' := by
  obtain ⟨H, hH⟩ : ∃ H, w.heap.size = H := ⟨_, rfl⟩
  obtain ⟨U, hU⟩ : ∃ U, (w.alloc (.cells ca 59)).alloc (.cells zeroR 59) = U := ⟨_, rfl⟩
  have E0 : Ext w U := by rw [← hU]; exact (Ext.alloc _ _).trans (Ext.alloc _ _)
  have V0 : ZVar Qc U H f (d : Int) := by rw [← hU, ← hH]; exact h.box.ext (Ext.alloc _ _)
  have Z0 : ZVar Qc U (H + 1) (fun _ => 0) 0 := by
    have := (zcs_zero (Qc := Qc) (w.alloc (.cells ca 59))).box
    rw [← hU, ← hH]
    simpa using this
  have HU := Lib.hid hU; have HH := Lib.hid hH; have HP := Lib.hid hP; have HEE := Lib.hid hE
  have Hst := Lib.hid (show SameN f d f d ∧ (∀ i, i < 8 → (f i).natAbs < 2 ^ P) ∧ d ≤ E ∧ ZVar Qc U H f (d : Int) ∧ ZVar Qc U (H + 1) (fun _ => 0) 0 ∧ Ext w U from ⟨EqN.refl _, hA, hd, V0, Z0, E0⟩)
  clear hU hH V0 Z0 E0 h hP hA hd hE
  go_enter Tryd.func78, Tryd.ntmps78
  go_wp2_with fail
  rw [HU.out, HH.out]
  clear HU
  go_loopg [3, 4] d (fun kk s3 s4 wr => ∃ (g : Nat → Int), SameN f d g kk ∧ (∀ i, i < 8 → (g i).natAbs < 2 ^ P) ∧ kk ≤ E ∧ ZVar Qc wr H g (kk : Int) ∧ ZVar Qc wr (H + 1) (fun _ => 0) 0 ∧ Ext w wr)
  case atStart => exact ⟨f, Hst.out⟩
  case round =>
    clear Hst
    obtain ⟨g, hS, hA, hkE, hV, hZ, hE⟩ := hrel
    obtain ⟨wo, rfl⟩ : ∃ wo : World, wo = wr := ⟨_, rfl⟩
    have x16 := hV.gete.1
    have HS := Lib.hid hS; have HA := Lib.hid hA; have HkE := Lib.hid hkE
    clear hS hA hkE
    cases gk with
    | zero =>
      obtain ⟨cr, hr, hc⟩ := hV
      have hinf : (Tryd.prog.info? 59).map (·.size) = some cr.size := by rw [hc.1]; exact zR_info
      obtain ⟨c1, hr1, hs1, hone, _, rr, hzz, hE'⟩ := fin_rm hc hZ hE (by rw [HH.out]; omega)
      have Hend := Lib.hid (show RmA Qc (wo.setRow (H + 1) cr) cr ⟨ext8 g, 0⟩ P E ∧ EqN ⟨ext8 g, 0⟩ ⟨ext8 f, d⟩ ∧ Ext w (wo.setRow (H + 1) cr) from
        ⟨⟨anti_ext8 g, Or.inl rfl, fun k => Nat.lt_of_le_of_lt (ext8_abs (A := 2 ^ P - 1) (fun i hi => by have := HA.out i hi; omega) k) (by have : 0 < 2 ^ P := Nat.pow_pos (by decide); omega), Nat.zero_le _, hzz.congr fun i hi => by
          show g i = ext8 g (i : Int)
          rw [ext8_at g _ (by omega) (by omega)]; rfl⟩, HS.out, hE'⟩)
      clear hc hZ hE hzz hE'
      go_wp2_with (first
        | refine wpList_load_row rfl 59 _ rfl H rfl 59 _ (0, 0) _ hr Tryd.underlying59 rfl hinf ?_
        | refine wpList_store_row rfl 59 _ _ rfl (H + 1) cr rfl rfl 59 _ hr1 hinf hs1 hone ?_)
      refine bodyPost_ret (v := .agg cr) ?_ rfl ⟨_, _, rfl, Hend.out⟩
      exact results_cell_row rfl _ _ (H + 1) _ _ _ _ rfl rr Tryd.underlying59 rfl hinf
    | succ m =>
    have q1 : (0 : Int) < ((m + 1 : Nat) : Int) := by omega
    have HV := Lib.hid hV; have HZ := Lib.hid hZ; have HE := Lib.hid hE
    clear hV hZ hE
    go_wp2_with fail
    clear x16 q1
    go_loopg [3] 8 (fun kk s3 wr => ∃ j : Nat, s3 = .int .i64 (j : Int) ∧ j ≤ 8 ∧ 8 - j = kk ∧ (∀ i, i < j → g i % 2 = 0) ∧ ZVar Qc wr H g ((m + 1 : Nat) : Int) ∧ ZVar Qc wr (H + 1) (fun _ => 0) 0 ∧ Ext w wr)
    case atStart => exact ⟨0, rfl, by omega, by omega, fun i hi => by omega, HV.out, HZ.out, HE.out⟩
    case round =>
      clear HV HZ HE
      obtain ⟨j, rfl, hj, hjk, hev, hV, hZ, hE⟩ := hrel
      obtain ⟨wo, rfl⟩ : ∃ wo : World, wo = wr := ⟨_, rfl⟩
      have Hev := Lib.hid hev
      clear hev
      by_cases hj8 : j = 8
      · subst hj8
        have HV := Lib.hid (hV.congr (f' := hvN g 0) fun i _ => by simp [hvN]); have HZ := Lib.hid hZ; have HE := Lib.hid hE
        have HA2 := Lib.hid (show ∀ i, i < 8 → (hvN g 8 i).natAbs < 2 ^ P from fun i hi => by have := HA.out i hi; unfold hvN; rw [if_pos hi]; omega)
        have HS2 := Lib.hid (same_half HS.out Hev.out)
        clear hV hZ hE hj hjk
        go_wp2_with fail
        go_loopg [4] 8 (fun kk s4 wr => ∃ j : Nat, s4 = .int .i64 (j : Int) ∧ j ≤ 8 ∧ 8 - j = kk ∧ ZVar Qc wr H (hvN g j) ((m + 1 : Nat) : Int) ∧ ZVar Qc wr (H + 1) (fun _ => 0) 0 ∧ Ext w wr)
        case atStart => exact ⟨0, rfl, by omega, by omega, HV.out, HZ.out, HE.out⟩
        case round =>
          clear HV HZ HE
          obtain ⟨j, rfl, hj, hjk, hV, hZ, hE⟩ := hrel
          obtain ⟨wo, rfl⟩ : ∃ wo : World, wo = wr := ⟨_, rfl⟩
          by_cases hj8 : j = 8
          · subst hj8
            obtain ⟨cq, hrq, hcq⟩ := hV
            have hinfq : (Tryd.prog.info? 59).map (·.size) = some cq.size := by rw [hcq.1]; exact zR_info
            have HcQ := Lib.hid hcq; have HrQ := Lib.hid hrq
            by_cases hz : zeroN (hvN g 8)
            · have HQ := Lib.hid (QZero_any cq (hvN g 8) _ wo hcq true (by simp [hz]))
              have HZ := Lib.hid hZ; have HE := Lib.hid hE; have Hz := Lib.hid hz
              clear hcq hZ hE hj hjk hz
              go_wp2_with (refine wpList_load_row rfl 59 _ rfl H rfl 59 _ (0, 0) _ hrq Tryd.underlying59 rfl hinfq ?_)
              refine HQ.out.mono ?_
              rintro r w2 ⟨rfl, hx2⟩
              obtain ⟨c1, hr1, hs1, hone, hinf, rr, hzz, hE'⟩ := fin_rm (zcs_zero (Qc := Qc) w2) (HZ.out.ext hx2) (HE.out.trans hx2) (by rw [HH.out]; omega)
              have Hend := Lib.hid (show RmA Qc (w2.setRow (H + 1) zeroR) zeroR ⟨ext8 (fun _ => 0), 0⟩ P E ∧ EqN ⟨ext8 (fun _ => 0), 0⟩ ⟨ext8 f, d⟩ ∧ Ext w (w2.setRow (H + 1) zeroR) from
                ⟨⟨anti_ext8 (fun _ => 0), Or.inl rfl, fun k => by rw [ext8_zero]; exact Nat.pow_pos (by decide), Nat.zero_le _, hzz.congr fun i _ => by show (0 : Int) = ext8 (fun _ => 0) (i : Int); rw [ext8_zero]⟩, same_zero HS2.out Hz.out, hE'⟩)
              clear hzz hE' hx2 HQ HZ HE
              go_wp2_with (refine wpList_store_row rfl 59 _ _ rfl (H + 1) zeroR rfl rfl 59 _ hr1 hinf hs1 hone ?_)
              refine bodyPost_ret (v := .agg zeroR) ?_ rfl ⟨_, _, rfl, Hend.out⟩
              exact results_cell_row rfl _ _ (H + 1) _ _ _ _ rfl rr Tryd.underlying59 rfl hinf
            · have HQ := Lib.hid (QZero_any cq (hvN g 8) _ wo hcq false (by simp [hz]))
              have HZ := Lib.hid hZ; have HE := Lib.hid hE
              clear hcq hZ hE hj hjk hz
              go_wp2_with (refine wpList_load_row rfl 59 _ rfl H rfl 59 _ (0, 0) _ hrq Tryd.underlying59 rfl hinfq ?_)
              refine HQ.out.mono ?_
              rintro r w2 ⟨rfl, hx2⟩
              have hV2 : ZVar Qc w2 H (hvN g 8) ((m + 1 : Nat) : Int) := (show ZVar Qc wo H (hvN g 8) ((m + 1 : Nat) : Int) from ⟨cq, HrQ.out, HcQ.out⟩).ext hx2
              have y16 := hV2.gete.1; have f16 := hV2.gete.2
              obtain ⟨hs, hch⟩ := hV2.sete (m : Int)
              have wm : IntKind.i64.wrap (m : Int) = (m : Int) := by have := HkE.out; have := HEE.out; rw [IntKind.wrap_i64]; omega
              have Hend := Lib.hid (show ZVar Qc (w2.setCell ⟨H, 16, none⟩ (.int .i64 (m : Int))) H (hvN g 8) (m : Int) ∧ ZVar Qc (w2.setCell ⟨H, 16, none⟩ (.int .i64 (m : Int))) (H + 1) (fun _ => 0) 0 ∧ Ext w (w2.setCell ⟨H, 16, none⟩ (.int .i64 (m : Int))) from
                ⟨hs, (HZ.out.ext hx2).chz hch hV2.no (by omega), hch.ext (HE.out.trans hx2) (by rw [HH.out]; exact Nat.le_refl _)⟩)
              clear hs hch hV2 hx2 HQ HZ HE hrq hinfq HcQ HrQ
              go_wp2_with fail
              clear y16 f16 wm
              generalize w2.setCell ⟨H, 16, none⟩ (.int .i64 (m : Int)) = V at *
              go_roundg m
              case measure => omega
              case rel => exact ⟨hvN g 8, HS2.out, HA2.out, by have := HkE.out; omega, Hend.out⟩
          have hlt : j < 8 := by omega
          have q1 : (j : Int) < 8 := by omega
          have q0 : (0 : Int) ≤ (j : Int) := by omega
          have wk : IntKind.i64.wrap ((j : Int) + 1) = ((j + 1 : Nat) : Int) := by rw [IntKind.wrap_i64]; omega
          have Hj1 := Lib.hid (show j + 1 ≤ 8 by omega)
          have Hlt := Lib.hid hlt
          obtain ⟨b, a, n, c, y0, y1, _, _, hI⟩ := hV.get j hlt
          have hI2 := hI.cast (show hvN g j j = g j by simp [hvN])
          have hn : n ≤ P := hI2.bits (HA.out j hlt)
          have HHa := Lib.hid (zhalf_two b a n c (g j) wo hI2 (by have := HP.out; omega))
          have HV := Lib.hid hV; have HZ := Lib.hid hZ; have HE := Lib.hid hE; have Hjk := Lib.hid hjk
          clear hI hI2 hV hZ hE hjk hj8 hj hlt hn
          go_wp2_with fail
          refine HHa.out.mono ?_
          rintro r w2 ⟨b2, a2, n2, c2, z2, bo, rfl, hI2, hz2, _, hx2⟩
          have hI3 := hI2.cast (hz2.out (Hev.out j Hlt.out))
          have hV2 := HV.out.ext hx2
          obtain ⟨_, _, _, _, z0, z1, fz0, fz1, _⟩ := hV2.get j Hlt.out
          obtain ⟨hs, hch⟩ := hV2.set j Hlt.out hI3
          have Hend := Lib.hid (show ZVar Qc ((w2.setCell ⟨H, j * 2, none⟩ (.bool b2)).setCell ⟨H, j * 2 + 1, none⟩ (.slice a2 n2 c2)) H (hvN g (j + 1)) ((m + 1 : Nat) : Int) ∧ ZVar Qc ((w2.setCell ⟨H, j * 2, none⟩ (.bool b2)).setCell ⟨H, j * 2 + 1, none⟩ (.slice a2 n2 c2)) (H + 1) (fun _ => 0) 0 ∧ Ext w ((w2.setCell ⟨H, j * 2, none⟩ (.bool b2)).setCell ⟨H, j * 2 + 1, none⟩ (.slice a2 n2 c2)) from
            ⟨hs.congr fun i _ => hvN_step g j i, (HZ.out.ext hx2).chz hch hV2.no (by omega), hch.ext (HE.out.trans hx2) (by rw [HH.out]; exact Nat.le_refl _)⟩)
          clear hs hch hV2 hI2 hI3 hz2 hx2 HHa HV HZ HE y0 y1
          go_wp2_with fail
          clear z0 z1 fz0 fz1
          generalize ((w2.setCell ⟨H, j * 2, none⟩ (.bool b2)).setCell ⟨H, j * 2 + 1, none⟩ (.slice a2 n2 c2)) = V at *
          go_roundg (8 - (j + 1))
          case measure => have := Hjk.out; have := Hj1.out; omega
          case rel => exact ⟨j + 1, rfl, Hj1.out, rfl, Hend.out⟩
      have hlt : j < 8 := by omega
      have q1 : (j : Int) < 8 := by omega
      have q0 : (0 : Int) ≤ (j : Int) := by omega
      have wk : IntKind.i64.wrap ((j : Int) + 1) = ((j + 1 : Nat) : Int) := by rw [IntKind.wrap_i64]; omega
      have Hj1 := Lib.hid (show j + 1 ≤ 8 by omega)
      have Hlt := Lib.hid hlt
      obtain ⟨b, a, n, c, y0, y1, _, _, hI⟩ := hV.get j hlt
      by_cases ho : (g j).natAbs % 2 = 1
      · have HOd := Lib.hid (zodd_any b a n c (g j) wo hI true (by simp [ho]))
        have HV := Lib.hid hV; have HZ := Lib.hid hZ; have HE := Lib.hid hE
        have Hlow := Lib.hid (show Low ⟨ext8 g, m + 1⟩ from Or.inr ⟨(j : Int), by show ext8 g (j : Int) % 2 = 1; rw [ext8_at g _ (by omega) (by omega)]; show g j % 2 = 1; omega⟩)
        clear hI hV hZ hE hj8 hj hlt ho
        go_wp2_with fail
        refine HOd.out.mono ?_
        rintro r w2 ⟨rfl, hx2⟩
        have hV := HV.out.ext hx2; have hZ := HZ.out.ext hx2; have hE := HE.out.trans hx2
        obtain ⟨wo, rfl⟩ : ∃ wo : World, wo = w2 := ⟨_, rfl⟩
        clear hx2 HOd HV HZ HE y0 y1
        obtain ⟨cr, hr, hc⟩ := hV
        have hinf : (Tryd.prog.info? 59).map (·.size) = some cr.size := by rw [hc.1]; exact zR_info
        obtain ⟨c1, hr1, hs1, hone, _, rr, hzz, hE'⟩ := fin_rm hc hZ hE (by rw [HH.out]; omega)
        have Hend := Lib.hid (show RmA Qc (wo.setRow (H + 1) cr) cr ⟨ext8 g, m + 1⟩ P E ∧ EqN ⟨ext8 g, m + 1⟩ ⟨ext8 f, d⟩ ∧ Ext w (wo.setRow (H + 1) cr) from
          ⟨⟨anti_ext8 g, Hlow.out, fun k => Nat.lt_of_le_of_lt (ext8_abs (A := 2 ^ P - 1) (fun i hi => by have := HA.out i hi; omega) k) (by have : 0 < 2 ^ P := Nat.pow_pos (by decide); omega), HkE.out, hzz.congr fun i hi => by
            show g i = ext8 g (i : Int)
            rw [ext8_at g _ (by omega) (by omega)]; rfl⟩, HS.out, hE'⟩)
        clear hc hZ hE hzz hE'
        go_wp2_with (first
          | refine wpList_load_row rfl 59 _ rfl H rfl 59 _ (0, 0) _ hr Tryd.underlying59 rfl hinf ?_
          | refine wpList_store_row rfl 59 _ _ rfl (H + 1) cr rfl rfl 59 _ hr1 hinf hs1 hone ?_)
        refine bodyPost_ret (v := .agg cr) ?_ rfl ⟨_, _, rfl, Hend.out⟩
        exact results_cell_row rfl _ _ (H + 1) _ _ _ _ rfl rr Tryd.underlying59 rfl hinf
      · have HOd := Lib.hid (zodd_any b a n c (g j) wo hI false (by simp [ho]))
        have HV := Lib.hid hV; have HZ := Lib.hid hZ; have HE := Lib.hid hE; have Hjk := Lib.hid hjk
        have Hev' := Lib.hid (show ∀ i, i < j + 1 → g i % 2 = 0 from fun i hi => by
          by_cases e : i = j
          · rw [e]; omega
          · exact Hev.out i (by omega))
        clear hI hV hZ hE hj8 hj hlt ho hjk
        go_wp2_with fail
        refine HOd.out.mono ?_
        rintro r w2 ⟨rfl, hx2⟩
        have Hend := Lib.hid (show ZVar Qc w2 H g ((m + 1 : Nat) : Int) ∧ ZVar Qc w2 (H + 1) (fun _ => 0) 0 ∧ Ext w w2 from ⟨HV.out.ext hx2, HZ.out.ext hx2, HE.out.trans hx2⟩)
        clear hx2 HOd HV HZ HE y0 y1
        go_wp2_with fail
        go_roundg (8 - (j + 1))
        case measure => have := Hjk.out; have := Hj1.out; omega
        case rel => exact ⟨j + 1, rfl, Hj1.out, rfl, Hev'.out, Hend.out⟩
end Go.Proofs.YtlmfhopifggeaaaDoor
