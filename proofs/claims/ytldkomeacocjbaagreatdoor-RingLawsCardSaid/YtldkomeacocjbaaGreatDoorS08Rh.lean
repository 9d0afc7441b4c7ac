/-
  Gcd. Numbers side by side in one block: the row of eight of a sum, the nine of a number of circuits. A row's small questions: zero. A region that draws its order and ends in stores: what it loads is held until the first store comes up. A row grows: add. A row grows by a product: addProduct. How often 2 divides a whole row: twos. Shift. A number shifted by any distance: shift.
-/
import Derived.Test.YtldkomeacocjbaaGreatDoorProg
import Derived.Test.YtldkomeacocjbaaGreatDoorRows
import Derived.BigQuiet
import Derived.Deep.Cut
import Derived.Deep.CutRange
import Derived.Deep.QuietTactic
import Derived.Deep.RegionHeld3
import Derived.Laws.Bits64b
import Derived.Laws.CopyOwn
import Derived.Laws.ResultCell
import Derived.Lib.BitFns
import Derived.Lib.ItoaNum
import Derived.Lib.Strings
import Derived.Lib.TrailingZeros
import Derived.Shelf.Bits.Mul64
import Derived.Shelf.LaysM
import Derived.Shelf.Small.Bits
import Derived.Shelf.Small.Wraps
import Derived.Shelf.Spec.BitsCarry
import Derived.Shelf.Spec.TrailingZeros
import Derived.Shelf.Strconv.Itoa0
import Derived.Shelf.Strconv.Itoa1
import Derived.Shelf.Strconv.Itoa2
import Derived.Shelf.Strconv.Itoa3
import Derived.Shelf.Strings.Builder1
import Derived.Shelf.Strings.BuilderF
import Derived.Shelf.Strings.BuilderK
import Derived.WalkKit
import Derived.WalkLawsBesides
import Derived.WalkSpells
import Derived.Test.YtldkomeacocjbaaGreatDoorS00Mem
import Derived.Test.YtldkomeacocjbaaGreatDoorShelf
import Derived.Test.YtldkomeacocjbaaGreatDoorS02ShiftI
import Derived.Test.YtldkomeacocjbaaGreatDoorS03GuessD
import Derived.Test.YtldkomeacocjbaaGreatDoorS04IntB
import Derived.Test.YtldkomeacocjbaaGreatDoorS05IntD
import Derived.Test.YtldkomeacocjbaaGreatDoorS06ParC
import Derived.Test.YtldkomeacocjbaaGreatDoorS07GcD
namespace Go.Proofs.YtldkomeacocjbaaGreatDoor
open Go.RowKit

/-- A variable that holds a number. -/
structure Box (W : World) (g : Nat) (s : Int) (a : Option Addr) (n c : Nat) : Prop where
  row : W.heap[g]? = some (.cells #[.int .i64 s, .slice a n c] 24 (0, 0))
theorem Box.lt {W : World} {g : Nat} {s : Int} {a : Option Addr} {n c : Nat} (h : Box W g s a n c) : g < W.heap.size := (Array.getElem?_eq_some_iff.1 h.row).1
theorem Box.ext {W W' : World} {g : Nat} {s : Int} {a : Option Addr} {n c : Nat} (h : Box W g s a n c) (k : Ext W W') : Box W' g s a n c := ⟨(k.block _ h.lt).trans h.row⟩
theorem Box.c0 {W : World} {g : Nat} {s : Int} {a : Option Addr} {n c : Nat} (h : Box W g s a n c) : W.cell? ⟨g, 0, none⟩ = some (.int .i64 s) := by rw [cell_of_row W g 0 _ _ (0, 0) h.row]; rfl
theorem Box.c1 {W : World} {g : Nat} {s : Int} {a : Option Addr} {n c : Nat} (h : Box W g s a n c) : W.cell? ⟨g, 1, none⟩ = some (.slice a n c) := by rw [cell_of_row W g 1 _ _ (0, 0) h.row]; rfl
theorem Box.f0 {W : World} {g : Nat} {s : Int} {a : Option Addr} {n c : Nat} (h : Box W g s a n c) : W.frozen? ⟨g, 0, none⟩ = false := frozen_of_row W g 0 _ _ h.row
theorem Box.f1 {W : World} {g : Nat} {s : Int} {a : Option Addr} {n c : Nat} (h : Box W g s a n c) : W.frozen? ⟨g, 1, none⟩ = false := frozen_of_row W g 1 _ _ h.row
theorem Box.own {W : World} {g : Nat} {s : Int} {a : Option Addr} {n c : Nat} (h : Box W g s a n c) (s' : Int) (a' : Option Addr) (n' c' : Nat) : Box ((W.setCell ⟨g, 0, none⟩ (.int .i64 s')).setCell ⟨g, 1, none⟩ (.slice a' n' c')) g s' a' n' c' := by
  have h1 := heap_setCell_same W g 0 _ _ (.int .i64 s') h.row
  have h2 := heap_setCell_same (W.setCell ⟨g, 0, none⟩ (.int .i64 s')) g 1 _ _ (.slice a' n' c') h1
  exact ⟨h2⟩
theorem Box.put {W : World} {g h o : Nat} {s : Int} {a : Option Addr} {n c : Nat} (hb : Box W g s a n c) (hne : g ≠ h) (u : Value) : Box (W.setCell ⟨h, o, none⟩ u) g s a n c :=
  ⟨(Below.heap_setCell _ _ _ _ hne).trans hb.row⟩
theorem box_new (w : World) (s : Int) (a : Option Addr) (n c : Nat) : Box (w.alloc (.cells #[.int .i64 s, .slice a n c] 24)) w.heap.size s a n c := ⟨heap_alloc_new w _⟩

end Go.Proofs.YtldkomeacocjbaaGreatDoor
namespace Go.Proofs.YtldkomeacocjbaaGreatDoor
open Go.RowKit

/-- Block g holds m numbers side by side: f 0, f 1, .. -/
def Nums (w : World) (g m : Nat) (t : TypeId) (f : Nat → Int) : Prop := ∃ cs : Array Value, w.heap[g]? = some (.cells cs t (0, 0)) ∧ cs.size = 2 * m ∧
  ∀ i, i < m → ∃ (s : Int) (a : Option Addr) (n c : Nat), cs[i * 2]? = some (.int .i64 s) ∧ cs[i * 2 + 1]? = some (.slice a n c) ∧ IsInt w s a n c (f i)

theorem Nums.lt {w : World} {g m : Nat} {t : TypeId} {f : Nat → Int} (h : Nums w g m t f) : g < w.heap.size := by
  obtain ⟨cs, h1, _⟩ := h
  exact (Array.getElem?_eq_some_iff.1 h1).1
theorem Nums.ext {w w' : World} {g m : Nat} {t : TypeId} {f : Nat → Int} (h : Nums w g m t f) (k : Ext w w') : Nums w' g m t f := by
  have hl := h.lt
  obtain ⟨cs, h1, h2, h3⟩ := h
  refine ⟨cs, (k.block _ hl).trans h1, h2, fun i hi => ?_⟩
  obtain ⟨s, a, n, c, q1, q2, q3⟩ := h3 i hi
  exact ⟨s, a, n, c, q1, q2, q3.ext k⟩
theorem Nums.congr {w : World} {g m : Nat} {t : TypeId} {f f' : Nat → Int} (h : Nums w g m t f) (e : ∀ i, i < m → f i = f' i) : Nums w g m t f' := by
  obtain ⟨cs, h1, h2, h3⟩ := h
  refine ⟨cs, h1, h2, fun i hi => ?_⟩
  obtain ⟨s, a, n, c, q1, q2, q3⟩ := h3 i hi
  exact ⟨s, a, n, c, q1, q2, q3.cast (e i hi)⟩
/-- What lies there, for a walk. -/
theorem Nums.get {w : World} {g m : Nat} {t : TypeId} {f : Nat → Int} (h : Nums w g m t f) (i : Nat) (hi : i < m) : ∃ (s : Int) (a : Option Addr) (n c : Nat),
    w.cell? ⟨g, i * 2, none⟩ = some (.int .i64 s) ∧ w.cell? ⟨g, i * 2 + 1, none⟩ = some (.slice a n c) ∧ w.frozen? ⟨g, i * 2, none⟩ = false ∧ w.frozen? ⟨g, i * 2 + 1, none⟩ = false ∧ IsInt w s a n c (f i) := by
  obtain ⟨cs, h1, h2, h3⟩ := h
  obtain ⟨s, a, n, c, q1, q2, q3⟩ := h3 i hi
  refine ⟨s, a, n, c, ?_, ?_, frozen_of_row w g _ _ _ h1, frozen_of_row w g _ _ _ h1, q3⟩
  · rw [cell_of_row w g _ _ _ (0, 0) h1]; exact q1
  · rw [cell_of_row w g _ _ _ (0, 0) h1]; exact q2
def updN (f : Nat → Int) (i : Nat) (z : Int) : Nat → Int := fun j => if j = i then z else f j
/-- A number is written. -/
theorem Nums.keep {w : World} {g m : Nat} {t : TypeId} {f : Nat → Int} (h : Nums w g m t f) (i : Nat) (hi : i < m) (s' : Int) (v : Value) : Keep64 w ((w.setCell ⟨g, i * 2, none⟩ (.int .i64 s')).setCell ⟨g, i * 2 + 1, none⟩ v) := by
  obtain ⟨s, a, n, c, q1, q2, _⟩ := h.get i hi
  exact Keep64.set2 (.i64 q1) (.slice q2) (notW_i64 s') v
theorem Nums.set {w : World} {g m : Nat} {t : TypeId} {f : Nat → Int} (h : Nums w g m t f) (i : Nat) (hi : i < m) {s' : Int} {a' : Option Addr} {n' c' : Nat} {z : Int} (hI : IsInt w s' a' n' c' z) :
    Nums ((w.setCell ⟨g, i * 2, none⟩ (.int .i64 s')).setCell ⟨g, i * 2 + 1, none⟩ (.slice a' n' c')) g m t (updN f i z) := by
  have hk := h.keep i hi s' (.slice a' n' c')
  obtain ⟨cs, h1, h2, h3⟩ := h
  have e1 := heap_setCell_same w g (i * 2) _ _ (.int .i64 s') h1
  have e2 := heap_setCell_same (w.setCell ⟨g, i * 2, none⟩ (.int .i64 s')) g (i * 2 + 1) _ _ (.slice a' n' c') e1
  refine ⟨_, e2, by simp [h2], fun j hj => ?_⟩
  by_cases hji : j = i
  · subst hji
    refine ⟨s', a', n', c', ?_, ?_, ?_⟩
    · rw [Array.getElem?_setIfInBounds_ne (by omega), Array.getElem?_setIfInBounds_self_of_lt (by omega)]
    · rw [Array.getElem?_setIfInBounds_self_of_lt (by simp; omega)]
    · unfold updN; rw [if_pos rfl]; exact hI.keep64 hk
  · obtain ⟨s, a, n, c, q1, q2, q3⟩ := h3 j hj
    refine ⟨s, a, n, c, ?_, ?_, ?_⟩
    · rw [Array.getElem?_setIfInBounds_ne (by omega), Array.getElem?_setIfInBounds_ne (by omega)]; exact q1
    · rw [Array.getElem?_setIfInBounds_ne (by omega), Array.getElem?_setIfInBounds_ne (by omega)]; exact q2
    · unfold updN; rw [if_neg hji]; exact q3.keep64 hk
/-- Another block is written. -/
theorem Nums.put {w w' : World} {g k m : Nat} {t : TypeId} {f : Nat → Int} (h : Nums w g m t f) (ho : Only k w w') (hne : g ≠ k) (hk : Keep64 w w') : Nums w' g m t f := by
  obtain ⟨cs, h1, h2, h3⟩ := h
  refine ⟨cs, (ho.block g hne).trans h1, h2, fun i hi => ?_⟩
  obtain ⟨s, a, n, c, q1, q2, q3⟩ := h3 i hi
  exact ⟨s, a, n, c, q1, q2, q3.keep64 hk⟩
end Go.Proofs.YtldkomeacocjbaaGreatDoor
namespace Go.Proofs.YtldkomeacocjbaaGreatDoor
open Go.RowKit

/-- All eight are nought. -/
def zeroN (f : Nat → Int) : Prop := ∀ i, i < 8 → f i = 0
theorem cmp3_zero {z : Int} : cmp3 z 0 = 0 ↔ z = 0 := by unfold cmp3; split; · omega
                                                         · split <;> omega
theorem rne_t {x y : Int} (h : x ≠ y) : (x != y) = true := by simp [h]
theorem rne_f {x y : Int} (h : x = y) : (x != y) = false := by simp [h]

set_option maxHeartbeats 1000000 in
theorem rowZero_yes (g m : Nat) (t : TypeId) (f : Nat → Int) (w : World) (h : Nums w g m t f) (hm : 8 ≤ m) (B : Bool) (hB : B = true ↔ zeroN f) :
    Calls Tryz.prog 71 #[.pointer (some ⟨g, 0, none⟩)] w fun e w' => e = .returned (.bool B) ∧ Ext w w' := by
  have Hh := Lib.hid h
  have Hm := Lib.hid hm
  have HB := Lib.hid hB
  clear h hm hB
  go_enter Tryz.func71, Tryz.ntmps71
  go_wp2_with fail
  go_loopg [3, 4] 8 (fun kk s3 s4 wr => ∃ k : Nat, s4 = .int .i64 (k : Int) ∧ k ≤ 8 ∧ 8 - k = kk ∧ Ext w wr ∧ ∀ i, i < k → f i = 0)
  case atStart => exact ⟨0, rfl, by omega, by omega, Ext.refl _, fun i hi => by omega⟩
  case round =>
    obtain ⟨k, rfl, hk, hkk, hx, hz⟩ := hrel
    have Hz := Lib.hid hz
    have Hkk := Lib.hid hkk
    clear hz hkk
    by_cases hk8 : k = 8
    · subst hk8
      have hBt : B = true := HB.out.2 Hz.out
      subst hBt
      go_wp2_with fail
      go_ret
      exact ⟨rfl, hx⟩
    have hlt : k < 8 := by omega
    have q1 : (k : Int) < 8 := by omega
    obtain ⟨s, a, n, c, l1, l2, _, _, hI⟩ := (Hh.out.ext hx).get k (by have := Hm.out; omega)
    have Hc := Lib.hid hI.cmp3
    have Hs := Lib.hid (Sign_any s (.slice a n c))
    have Hx := Lib.hid hx
    clear hI hx
    go_wp2_with fail
    refine (Hs.out wr).mono ?_
    rintro e w2 ⟨rfl, hx2⟩
    have Hx2 := Lib.hid (Hx.out.trans hx2)
    clear hx2 l1 l2 Hs
    rw [Hc.out]
    by_cases hz : f k = 0
    · have b1 : (cmp3 (f k) 0 != 0) = false := rne_f (cmp3_zero.2 hz)
      have wk : IntKind.i64.wrap ((k : Int) + 1) = ((k + 1 : Nat) : Int) := by rw [IntKind.wrap_i64]; omega
      have Hz' := Lib.hid (show ∀ i, i < k + 1 → f i = 0 from fun i hi => by
        by_cases e : i = k
        · rw [e]; exact hz
        · exact Hz.out i (by omega))
      have Hk1 := Lib.hid (show k + 1 ≤ 8 by omega)
      clear hz Hc
      go_wp2_with fail
      go_roundg (8 - (k + 1))
      case measure => have := Hkk.out; have := Hk1.out; omega
      case rel => exact ⟨k + 1, rfl, Hk1.out, rfl, Hx2.out, Hz'.out⟩
    · have b1 : (cmp3 (f k) 0 != 0) = true := rne_t fun e => hz (cmp3_zero.1 e)
      have hBf : B = false := by
        cases hb : B with
        | false => rfl
        | true => exact absurd (HB.out.1 hb k hlt) hz
      subst hBf
      clear hz Hc
      go_wp2_with fail
      go_ret
      exact ⟨rfl, Hx2.out⟩
end Go.Proofs.YtldkomeacocjbaaGreatDoor
namespace Go.Proofs.YtldkomeacocjbaaGreatDoor

section
variable {P : Program} {ops : Array Oper} {Q : Exit → Act → World → Prop} {md : Region.Mode} {S : World → Prop} {k : Nat}

/-- In whatever order: S holds behind each operation as long as number k has not come up. -/
def anyK (P : Program) (md : Region.Mode) (ops : Array Oper) (Q : Exit → Act → World → Prop) (k : Nat) (S : World → Prop) : Nat → Array Bool → Act → World → Prop
  | 0, l, a, w => Region.ready md ops l = [] ∧ Q .normal a w
  | n + 1, l, a, w => (Region.ready md ops l = [] → Q .normal a w) ∧
      ∀ i, i ∈ Region.ready md ops l → wpOp P ops Q i (fun a' w' => ((l.setIfInBounds i true).getD k true = false → S w') ∧ anyK P md ops Q k S n (l.setIfInBounds i true) a' w') a w

theorem anyK_plain (n : Nat) : ∀ (l : Array Bool) (a : Act) (w : World), anyK P md ops Q k S n l a w → wpAny P md ops Q n l a w := by
  induction n with
  | zero => exact fun _ _ _ h => h
  | succ n ih => exact fun l a w h => ⟨h.1, fun i hi => wpOp_mono (fun a' w' h' => ih _ a' w' h'.2) (h.2 i hi)⟩

/-- Number k waits for number i, by way of others too. -/
def waits (md : Region.Mode) (ops : Array Oper) : Nat → Nat → Nat → Bool
  | 0, _, _ => false
  | n + 1, k, i => match ops[k]? with
    | some o => o.after.any fun e => Region.binds md e && (e.on == i || waits md ops n e.on i)
    | none => false

/-- What has come up has come up behind all that it waits for. -/
def closedL (md : Region.Mode) (ops : Array Oper) (l : Array Bool) : Prop :=
  ∀ j o, ops[j]? = some o → l.getD j false = true → ∀ e ∈ o.after, Region.binds md e = true → l.getD e.on false = true
def closedB (md : Region.Mode) (ops : Array Oper) (l : Array Bool) : Bool :=
  (List.range ops.size).all fun j => !(l.getD j false) || (match ops[j]? with
    | some o => o.after.all fun e => !(Region.binds md e) || l.getD e.on false
    | none => true)
theorem closedB_spec {l : Array Bool} (h : closedB md ops l = true) : closedL md ops l := by
  intro j o ho hl e he hb
  have hj : j < ops.size := (Array.getElem?_eq_some_iff.1 ho).1
  have h1 := List.all_eq_true.1 h j (List.mem_range.2 hj)
  rw [hl, ho] at h1
  have h2 : (o.after.all fun e => !(Region.binds md e) || l.getD e.on false) = true := by simpa using h1
  have h3 := Array.all_eq_true_iff_forall_mem.1 h2 e he
  rw [hb] at h3
  simpa using h3
theorem closedL_set {l : Array Bool} {j : Nat} (h : closedL md ops l) (hj : j ∈ Region.ready md ops l) : closedL md ops (l.setIfInBounds j true) := by
  intro m o ho hl e he hb
  by_cases hm : j = m
  · subst hm
    obtain ⟨_, o', ho', hall⟩ := mem_ready.1 hj
    rw [ho] at ho'
    cases ho'
    exact getD_set_true (hall e he hb)
  · rw [Go.getD_set_ne false hm] at hl
    exact getD_set_true (h m o ho hl e he hb)

theorem waits_listed {l : Array Bool} (hc : closedL md ops l) (n : Nat) : ∀ (k i : Nat), waits md ops n k i = true → (∀ o, ops[k]? = some o → ∀ e ∈ o.after, Region.binds md e = true → l.getD e.on false = true) → l.getD i false = true := by
  induction n with
  | zero => intro k i h; cases h
  | succ n ih =>
    intro k i h hk
    unfold waits at h
    cases ho : ops[k]? with
    | none => rw [ho] at h; cases h
    | some o =>
      rw [ho] at h
      obtain ⟨e, he, hb⟩ := Array.any_eq_true'.1 h
      obtain ⟨h1, h2⟩ : Region.binds md e = true ∧ (e.on = i ∨ waits md ops n e.on i = true) := by simpa using hb
      have h3 := hk o ho e he h1
      rcases h2 with h2 | h2
      · rw [← h2]; exact h3
      · exact ih e.on i h2 (fun o' ho' e' he' hb' => hc e.on o' ho' h3 e' he' hb')
theorem waits_unready {l : Array Bool} {i n : Nat} (hc : closedL md ops l) (hw : waits md ops n k i = true) (hi : i ∈ Region.ready md ops l) : k ∉ Region.ready md ops l := by
  intro hk
  obtain ⟨_, o, ho, hall⟩ := mem_ready.1 hk
  have h1 := waits_listed hc n k i hw (fun o' ho' => by rw [ho] at ho'; cases ho'; exact hall)
  have h2 := (mem_ready.1 hi).1
  rcases Nat.lt_or_ge i l.size with h | h
  · simp [h] at h1 h2
    rw [h2] at h1
    cases h1
  · simp [Array.getElem?_eq_none h] at h1

/-- Number i may be taken first, if it yields the same wherever S holds, and number k waits for it. -/
theorem anyK_first {i : Nat} {o : Oper} {v : Value} (hi : ops[i]? = some o) (hsel : ∀ (j : Nat) (o : Oper) cs b, ops[j]? = some o → o.op ≠ .select cs b)
    (hQ : ∀ c a w, Q (.panic c) (a.put o.dst v) w → Q (.panic c) a w) {N : Nat} (hw : waits md ops N k i = true) (n : Nat) :
    ∀ (l : Array Bool) (a : Act) (w : World), closedL md ops l →
      (∀ j oj, ops[j]? = some oj → j ≠ i → l.getD j true = false → (∀ e ∈ oj.after, Region.binds md e = true → e.on ≠ i) → o.apart ops oj = true) →
      i ∈ Region.ready md ops l → YieldsIf P ops S o v a → S w → l.getD k true = false →
      anyK P md ops Q k S n (l.setIfInBounds i true) (a.put o.dst v) w → anyK P md ops Q k S (n + 1) l a w := by
  induction n with
  | zero =>
    intro l a w _ _ hr hy hS _ H
    refine ⟨fun h => (by rw [h] at hr; cases hr), fun j hj => ?_⟩
    by_cases hji : j = i
    · subst hji
      exact hy.wpOp hi hS ⟨fun _ => hS, H⟩
    · have h := ready_mono hj hji
      rw [H.1] at h
      cases h
  | succ n ih =>
    intro l a w hc hfree hr hy hS hk H
    refine ⟨fun h => (by rw [h] at hr; cases hr), fun j hj => ?_⟩
    by_cases hji : j = i
    · subst hji
      exact hy.wpOp hi hS ⟨fun _ => hS, H⟩
    have hjk : j ≠ k := fun e => waits_unready hc hw hr (e ▸ hj)
    obtain ⟨hjun, oj, hoj, hall⟩ := mem_ready.1 hj
    have hnot : ∀ e ∈ oj.after, Region.binds md e = true → e.on ≠ i := by
      intro e he hb heq
      have h1 := hall e he hb
      have h0 := (mem_ready.1 hr).1
      rw [heq] at h1
      rcases Nat.lt_or_ge i l.size with h' | h'
      · simp [h'] at h0 h1
        rw [h0] at h1
        cases h1
      · simp [Array.getElem?_eq_none h'] at h1
    have h2 := wpOp_putIf hoj (hfree j oj hoj hji hjun hnot) (fun cs b => hsel i o cs b hi) (fun cs b => hsel j oj cs b hoj) hQ hy (H.2 j (ready_mono hj hji))
    have hk1 : (l.setIfInBounds j true).getD k true = false := by rw [Go.getD_set_ne true hjk]; exact hk
    have hik : i ≠ k := fun e => waits_unready hc hw hr (e ▸ hr)
    have hk2 : ((l.setIfInBounds i true).setIfInBounds j true).getD k true = false := by rw [Go.getD_set_ne true hjk, Go.getD_set_ne true hik]; exact hk
    have hfree' : ∀ m om, ops[m]? = some om → m ≠ i → (l.setIfInBounds j true).getD m true = false → (∀ e ∈ om.after, Region.binds md e = true → e.on ≠ i) → o.apart ops om = true := by
      intro m om hm hmi hun hno
      refine hfree m om hm hmi ?_ hno
      by_cases e : j = m
      · subst e; exact hjun
      · rw [Go.getD_set_ne true e] at hun; exact hun
    refine wpOp_mono (fun a' w' h3 => ?_) h2
    obtain ⟨y3, s3, r3⟩ := h3
    refine ⟨fun _ => s3 hk2, ih _ a' w' (closedL_set hc hj) hfree' (ready_mono hr (Ne.symm hji)) y3 (s3 hk2) hk1 ?_⟩
    rw [Array.setIfInBounds_comm _ _ hji]
    exact r3

theorem anyK_take {i : Nat} {o : Oper} {v : Value} {n : Nat} {l : Array Bool} {a : Act} {w : World} (hi : ops[i]? = some o)
    (hs : Region.noSelect ops = true) (hf : Region.free md ops l i = true) (hr : (Region.ready md ops l).contains i = true) {N : Nat} (hw : waits md ops N k i = true) (hc : closedB md ops l = true) (hk : l.getD k true = false)
    (hQ : ∀ c a w, Q (.panic c) (a.put o.dst v) w → Q (.panic c) a w) (hy : YieldsIf P ops S o v a) (hS : S w)
    (h : anyK P md ops Q k S n (l.setIfInBounds i true) (a.put o.dst v) w) : anyK P md ops Q k S (n + 1) l a w :=
  anyK_first hi (Region.noSelect_spec hs) hQ hw n l a w (closedB_spec hc) (Region.free_spec hi hf) (by simpa using hr) hy hS hk h

/-- One alone may come up. -/
theorem anyK_one {i : Nat} {o : Oper} {n : Nat} {l : Array Bool} {a : Act} {w : World} (hr : Region.ready md ops l = [i]) (ho : ops[i]? = some o)
    (h : ∀ K' : Act → World → Prop, Shut (∀ a w, ((l.setIfInBounds i true).getD k true = false → S w) → anyK P md ops Q k S n (l.setIfInBounds i true) a w → K' a w) → if Region.wanted o (yielded ops a.tmps) = true then Oper.wp P o a w K' Q else K' (a.put o.dst undef) w) :
    anyK P md ops Q k S (n + 1) l a w := by
  refine ⟨fun h0 => (by rw [hr] at h0; cases h0), fun j hj => ?_⟩
  rw [hr] at hj
  rcases List.mem_singleton.1 hj with rfl
  exact wpOp_step ho (fun K' hK => h K' (fun a w hS hW => hK a w ⟨hS, hW⟩))

theorem anyK_done {l : Array Bool} {a : Act} {w : World} (hr : Region.ready md ops l = []) (h : Q .normal a w) (n : Nat) : anyK P md ops Q k S n l a w := by
  cases n with
  | zero => exact ⟨hr, h⟩
  | succ n => exact ⟨fun _ => h, by rw [hr]; intro i hi; cases hi⟩

theorem wp_region_K (k : Nat) (S : World → Prop) {id : Nat} {a : Act} {w : World} (hm : P.follows .mixedOrders = true)
    (h : anyK P .any ops Q k S ops.size (Array.replicate ops.size false) a w.drew) : (Code.region id ops true).wp P Q a w :=
  wp_region_any hm (anyK_plain _ _ _ _ h)
end

end Go.Proofs.YtldkomeacocjbaaGreatDoor
namespace Go.Proofs.YtldkomeacocjbaaGreatDoor
open Go.RowKit

/-- Block g alone has turned, of what was; words stay words. -/
structure Chg (g : Nat) (w w' : World) : Prop where
  os : w'.os = w.os
  tape : w'.tape = w.tape
  output : w'.output = w.output
  size : w.heap.size ≤ w'.heap.size
  block : ∀ k, k ≠ g → k < w.heap.size → w'.heap[k]? = w.heap[k]?
  keep : Keep64 w w'
theorem Chg.of_ext {g : Nat} {w w' : World} (h : Ext w w') : Chg g w w' := ⟨h.os, h.tape, h.output, h.size, fun k _ hk => h.block k hk, Keep64.ext h⟩
theorem Chg.trans {g : Nat} {a b c : World} (h : Chg g a b) (k : Chg g b c) : Chg g a c :=
  ⟨k.os.trans h.os, k.tape.trans h.tape, k.output.trans h.output, Nat.le_trans h.size k.size, fun i hp hi => (k.block i hp (Nat.lt_of_lt_of_le hi h.size)).trans (h.block i hp hi), h.keep.trans k.keep⟩
theorem Chg.of_only {g : Nat} {w w' : World} (h : Only g w w') (k : Keep64 w w') : Chg g w w' := ⟨h.os, h.tape, h.output, by rw [h.size]; exact Nat.le_refl _, fun i hi _ => h.block i hi, k⟩
/-- Of a world in which block g was not yet, all is as it was. -/
theorem Chg.ext {g : Nat} {a b c : World} (h : Ext a b) (k : Chg g b c) (hg : a.heap.size ≤ g) : Ext a c :=
  ⟨k.os.trans h.os, k.tape.trans h.tape, k.output.trans h.output, Nat.le_trans h.size k.size, fun i hi => (k.block i (by omega) (Nat.lt_of_lt_of_le hi h.size)).trans (h.block i hi)⟩
theorem Nums.chg {w w' : World} {g k m : Nat} {t : TypeId} {f : Nat → Int} (h : Nums w k m t f) (c : Chg g w w') (hne : k ≠ g) : Nums w' k m t f := by
  have hl := h.lt
  obtain ⟨cs, h1, h2, h3⟩ := h
  refine ⟨cs, (c.block k hne hl).trans h1, h2, fun i hi => ?_⟩
  obtain ⟨s, a, n, c', q1, q2, q3⟩ := h3 i hi
  exact ⟨s, a, n, c', q1, q2, q3.keep64 c.keep⟩

/-- n, or -n, by the power. -/
def sgK (k z : Int) : Int := if k % 16 < 8 then z else -z
/-- What add makes of the numbers. -/
def addN (f : Nat → Int) (k z : Int) : Nat → Int := updN f (k % 8).toNat (f (k % 8).toNat + sgK k z)
theorem addN_zero (f : Nat → Int) (k : Int) (i : Nat) : f i = addN f k 0 i := by
  unfold addN updN sgK
  split
  · rename_i e; rw [e]; split <;> omega
  · rfl
theorem Fit.sgK {K : Nat} {z : Int} (h : Fit K z) (k : Int) : Fit K (sgK k z) := by unfold Go.Proofs.YtldkomeacocjbaaGreatDoor.sgK; split; exact h; exact h.neg

set_option maxHeartbeats 400000 in
theorem stepK_storeW {ops : Array Oper} {o : Oper} {a : Act} {K : Act → World → Prop} {Q : Exit → Act → World → Prop} {E : Prop} {w : World} (hgd : o.guard = none) (hd : o.dst = none) (p x : Operand)
    (ho : o.op = .store 24 p x) (b off : Nat) (s : Int) (l : Option Addr) (n c : Nat) (u0 u1 : Value) (hp : a.eval p = .pointer (some ⟨b, off, none⟩)) (hx : a.eval x = .agg #[.int .i64 s, .slice l n c])
    (h0 : w.cell? ⟨b, off, none⟩ = some u0) (h1 : w.cell? ⟨b, off + 1, none⟩ = some u1) (f0 : w.frozen? ⟨b, off, none⟩ = false) (f1 : w.frozen? ⟨b, off + 1, none⟩ = false)
    (h : K a ((w.setCell ⟨b, off, none⟩ (.int .i64 s)).setCell ⟨b, off + 1, none⟩ (.slice l n c))) :
    if Region.wanted o (yielded ops a.tmps) = true then Oper.wp Tryz.prog o a w K Q else E := by
  have hw : Region.wanted o (yielded ops a.tmps) = true := by simp [Region.wanted, hgd]
  rw [if_pos hw]
  obtain ⟨od, oo, ot, opp, oa, og⟩ := o
  simp only at ho hd
  subst ho hd
  have HH := Lib.hid h
  clear h
  unfold Oper.wp execOp
  simp only [hp, hx]
  go_simp
  exact HH.out

set_option maxRecDepth 100000 in
set_option maxHeartbeats 2000000 in
theorem rowAdd_any (g m : Nat) (t : TypeId) (f : Nat → Int) (k : Int) (s : Int) (a : Option Addr) (n c : Nat) (z : Int) (w : World) (h : Nums w g m t f) (hm : 8 ≤ m) (hI : IsInt w s a n c z) (K : Nat) (hK : K ≤ 4194304) (hf : Fit K z) (hF : ∀ i, i < 8 → Fit K (f i)) :
    Calls Tryz.prog 74 #[.pointer (some ⟨g, 0, none⟩), .int .i64 k, .agg #[.int .i64 s, .slice a n c]] w fun e w' => e = .returned (.tuple #[]) ∧ Nums w' g m t (addN f k z) ∧ Chg g w w' := by
  have Hh := Lib.hid h; have HI := Lib.hid hI; have Hc := Lib.hid hI.cmp3; have Hf := Lib.hid hf; have HF := Lib.hid hF; have Hm := Lib.hid hm; have HK := Lib.hid hK
  have hgl := h.lt
  clear h hI hf hF hm hK
  have E0 := Ext.alloc w (.cells #[.int .i64 s, .slice a n c] 24)
  have B0 := box_new w s a n c
  have l0 := B0.c0; have l1 := B0.c1
  have HE0 := Lib.hid E0; have HB0 := Lib.hid B0
  clear E0 B0
  have Hs := Lib.hid (Sign_any s (.slice a n c))
  go_enter Tryz.func74, Tryz.ntmps74
  go_wp2_with fail
  refine (Hs.out _).mono ?_
  rintro e w1 ⟨rfl, hx1⟩
  have HE1 := Lib.hid (HE0.out.trans hx1); have HB1 := Lib.hid (HB0.out.ext hx1)
  clear hx1 l0 l1 HE0 HB0 Hs
  rw [Hc.out]
  obtain ⟨H, hH⟩ : ∃ H, w.heap.size = H := ⟨_, rfl⟩
  rw [hH] at HB1
  have HH := Lib.hid hH
  rw [hH] at hgl ⊢
  clear hH Hc
  by_cases hz : z = 0
  · subst hz
    have b1 : (cmp3 (0 : Int) 0 == 0) = true := by decide
    go_wp2_with fail
    refine bodyPost_ret (results_none rfl _ _ _) rfl ?_
    exact ⟨rfl, (Hh.out.ext HE1.out).congr fun i _ => addN_zero f k i, Chg.of_ext HE1.out⟩
  have b1 : (cmp3 z 0 == 0) = false := by
    have : cmp3 z 0 ≠ 0 := fun e => hz (cmp3_zero.1 e)
    simp [this]
  clear hz
  go_upto_if 11 with fail
  clear b1
  go_cut [] from 6 to 13 (fun wx => ∃ (s2 : Int) (a2 : Option Addr) (n2 c2 : Nat), Box wx H s2 a2 n2 c2 ∧ IsInt wx s2 a2 n2 c2 (sgK k z) ∧ Ext w wx)
  case first =>
    by_cases hk : k % 16 < 8
    · have b2 : (bits .and .i64 k 8 != 0) = false := by rw [and8, if_pos hk]; rfl
      have hsg : z = sgK k z := by unfold sgK; rw [if_pos hk]
      clear hk
      go_wp2_with fail
      go_meet
      exact ⟨s, a, n, c, HB1.out, (HI.out.ext HE1.out).cast hsg, HE1.out⟩
    · have b2 : (bits .and .i64 k 8 != 0) = true := by rw [and8, if_neg hk]; rfl
      have hsg : -z = sgK k z := by unfold sgK; rw [if_neg hk]
      have HN := Lib.hid (Neg_any s a n c z w1 (HI.out.ext HE1.out))
      have l0 := HB1.out.c0; have l1 := HB1.out.c1
      clear hk
      go_wp2_with fail
      refine HN.out.mono ?_
      rintro e w2 ⟨s2, a2, n2, c2, rfl, hI2, hx2⟩
      have bx := HB1.out.ext hx2
      have l0' := bx.c0; have l1' := bx.c1; have g0 := bx.f0; have g1 := bx.f1
      clear l0 l1 HN
      have Hfin := Lib.hid (show Box ((w2.setCell ⟨H, 0, none⟩ (.int .i64 s2)).setCell ⟨H, 1, none⟩ (.slice a2 n2 c2)) H s2 a2 n2 c2 ∧ IsInt ((w2.setCell ⟨H, 0, none⟩ (.int .i64 s2)).setCell ⟨H, 1, none⟩ (.slice a2 n2 c2)) s2 a2 n2 c2 (sgK k z) ∧ Ext w ((w2.setCell ⟨H, 0, none⟩ (.int .i64 s2)).setCell ⟨H, 1, none⟩ (.slice a2 n2 c2)) from
        ⟨bx.own s2 a2 n2 c2, (hI2.cast hsg).keep64 (Keep64.set2 (.i64 bx.c0) (.slice bx.c1) (notW_i64 s2) (.slice a2 n2 c2)), (HE1.out.trans hx2).put2 (by rw [HH.out]; exact Nat.le_refl _) _ _⟩)
      clear bx hI2 hx2 hsg
      go_wp2_with fail
      go_meet
      exact ⟨s2, a2, n2, c2, Hfin.out⟩
  case rest =>
  obtain ⟨s2, a2, n2, c2, bx, hI2, hE⟩ := hcut
  obtain ⟨j, hj⟩ : ∃ j, (k % 8).toNat = j := ⟨_, rfl⟩
  have hjk : k % 8 = (j : Int) := by omega
  have hj8 : j < 8 := by omega
  obtain ⟨s1, a1, n1, c1, y0, y1, fr0, fr1, hI1⟩ := (Hh.out.ext hE).get j (by have := Hm.out; omega)
  have HAd := Lib.hid (fun wx (hx : Ext wc wx) => Add_any s1 s2 a1 a2 n1 c1 n2 c2 _ _ wx (hI1.ext hx) (hI2.ext hx) K HK.out (HF.out j hj8) (Hf.out.sgK k))
  have l0 := bx.c0; have l1 := bx.c1
  have HN := Lib.hid (Hh.out.ext hE); have HE := Lib.hid hE
  have hbl := bx.lt
  have hgl' := HN.out.lt
  have e7 : bits .and .i64 k 7 = (j : Int) := by rw [and7, hjk]
  have i0 : (0 : Int) ≤ (j : Int) := by omega
  have i8 : (j : Int) < 8 := by omega
  clear HB1 HE1 HI Hf HF HK hI1 hI2 bx hE Hh
  go_upto_region 4 with fail
  have hd0 : Ext wc wc.drew := Below.drew (Ext.refl _)
  refine wp_region_K 13 (fun w' => (w'.cell? ⟨H, 0, none⟩ = some (.int .i64 s2) ∧ w'.cell? ⟨H, 1, none⟩ = some (.slice a2 n2 c2)) ∧ w'.cell? ⟨g, j * 2, none⟩ = some (.int .i64 s1) ∧ w'.cell? ⟨g, j * 2 + 1, none⟩ = some (.slice a1 n1 c1)) (by kernel_rfl) ?_
  show anyK _ _ _ _ _ _ 14 #[false, false, false, false, false, false, false, false, false, false, false, false, false, false] _ _
  have hHeld : (wc.drew.cell? ⟨H, 0, none⟩ = some (.int .i64 s2) ∧ wc.drew.cell? ⟨H, 1, none⟩ = some (.slice a2 n2 c2)) ∧ wc.drew.cell? ⟨g, j * 2, none⟩ = some (.int .i64 s1) ∧ wc.drew.cell? ⟨g, j * 2 + 1, none⟩ = some (.slice a1 n1 c1) := ⟨⟨cellKeep hd0 hbl l0, cellKeep hd0 hbl l1⟩, cellKeep hd0 hgl' y0, cellKeep hd0 hgl' y1⟩
  refine anyK_take (i := 0) (v := ?_) rfl (by kernel_rfl) (by kernel_rfl) (by kernel_rfl) (N := 14) (by kernel_rfl) (by kernel_rfl) (by kernel_rfl) (fun _ _ _ h => h) (Or.inl ⟨by rfl, ?_⟩) hHeld ?_
  rotate_left 1
  · intro w hSw
    go_simp
    try with_reducible rfl
  show anyK _ _ _ _ _ _ _ _ (Act.put _ (some 14) _) _
  simp only [Act.put, List.setIfInBounds_toArray, List.set_cons_zero, List.set_cons_succ]
  refine anyK_take (i := 1) (v := ?_) rfl (by kernel_rfl) (by kernel_rfl) (by kernel_rfl) (N := 14) (by kernel_rfl) (by kernel_rfl) (by kernel_rfl) (fun _ _ _ h => h) (Or.inl ⟨by rfl, ?_⟩) hHeld ?_
  rotate_left 1
  · intro w hSw
    go_simp
    try with_reducible rfl
  show anyK _ _ _ _ _ _ _ _ (Act.put _ (some 15) _) _
  simp only [Act.put, List.setIfInBounds_toArray, List.set_cons_zero, List.set_cons_succ]
  refine anyK_take (i := 2) (v := ?_) rfl (by kernel_rfl) (by kernel_rfl) (by kernel_rfl) (N := 14) (by kernel_rfl) (by kernel_rfl) (by kernel_rfl) (fun _ _ _ h => h) (Or.inl ⟨by rfl, ?_⟩) hHeld ?_
  rotate_left 1
  · intro w hSw
    go_simp
    try with_reducible rfl
  show anyK _ _ _ _ _ _ _ _ (Act.put _ (some 16) _) _
  simp only [Act.put, List.setIfInBounds_toArray, List.set_cons_zero, List.set_cons_succ]
  refine anyK_take (i := 3) (v := ?_) rfl (by kernel_rfl) (by kernel_rfl) (by kernel_rfl) (N := 14) (by kernel_rfl) (by kernel_rfl) (by kernel_rfl) (fun _ _ _ h => h) (Or.inl ⟨by rfl, ?_⟩) hHeld ?_
  rotate_left 1
  · intro w hSw
    go_simp
    try with_reducible rfl
  show anyK _ _ _ _ _ _ _ _ (Act.put _ (some 17) _) _
  simp only [Act.put, List.setIfInBounds_toArray, List.set_cons_zero, List.set_cons_succ]
  refine anyK_take (i := 4) (v := ?_) rfl (by kernel_rfl) (by kernel_rfl) (by kernel_rfl) (N := 14) (by kernel_rfl) (by kernel_rfl) (by kernel_rfl) (fun _ _ _ h => h) (Or.inl ⟨by rfl, ?_⟩) hHeld ?_
  rotate_left 1
  · intro w hSw
    go_simp
    try with_reducible rfl
  show anyK _ _ _ _ _ _ _ _ (Act.put _ (some 18) _) _
  simp only [Act.put, List.setIfInBounds_toArray, List.set_cons_zero, List.set_cons_succ]
  refine anyK_take (i := 5) (v := ?_) rfl (by kernel_rfl) (by kernel_rfl) (by kernel_rfl) (N := 14) (by kernel_rfl) (by kernel_rfl) (by kernel_rfl) (fun _ _ _ h => h) (Or.inl ⟨by rfl, ?_⟩) hHeld ?_
  rotate_left 1
  · intro w hSw
    go_simp
    try with_reducible rfl
  show anyK _ _ _ _ _ _ _ _ (Act.put _ (some 19) _) _
  simp only [Act.put, List.setIfInBounds_toArray, List.set_cons_zero, List.set_cons_succ]
  refine anyK_take (i := 6) (v := ?_) rfl (by kernel_rfl) (by kernel_rfl) (by kernel_rfl) (N := 14) (by kernel_rfl) (by kernel_rfl) (by kernel_rfl) (fun _ _ _ h => h) (Or.inl ⟨by rfl, ?_⟩) hHeld ?_
  rotate_left 1
  · intro w hSw
    go_simp
    try with_reducible rfl
  show anyK _ _ _ _ _ _ _ _ (Act.put _ (some 20) _) _
  simp only [Act.put, List.setIfInBounds_toArray, List.set_cons_zero, List.set_cons_succ]
  refine anyK_take (i := 7) (v := ?_) rfl (by kernel_rfl) (by kernel_rfl) (by kernel_rfl) (N := 14) (by kernel_rfl) (by kernel_rfl) (by kernel_rfl) (fun _ _ _ h => h) (Or.inl ⟨by rfl, ?_⟩) hHeld ?_
  rotate_left 1
  · intro w hSw
    go_simp
    try with_reducible rfl
  show anyK _ _ _ _ _ _ _ _ (Act.put _ (some 21) _) _
  simp only [Act.put, List.setIfInBounds_toArray, List.set_cons_zero, List.set_cons_succ]
  refine anyK_take (i := 8) (v := ?_) rfl (by kernel_rfl) (by kernel_rfl) (by kernel_rfl) (N := 14) (by kernel_rfl) (by kernel_rfl) (by kernel_rfl) (fun _ _ _ h => h) (Or.inl ⟨by rfl, ?_⟩) hHeld ?_
  rotate_left 1
  · intro w hSw
    go_simp
    try with_reducible rfl
  show anyK _ _ _ _ _ _ _ _ (Act.put _ (some 22) _) _
  simp only [Act.put, List.setIfInBounds_toArray, List.set_cons_zero, List.set_cons_succ]
  refine anyK_take (i := 9) (v := ?_) rfl (by kernel_rfl) (by kernel_rfl) (by kernel_rfl) (N := 14) (by kernel_rfl) (by kernel_rfl) (by kernel_rfl) (fun _ _ _ h => h) (Or.inl ⟨by rfl, ?_⟩) hHeld ?_
  rotate_left 1
  · intro w hSw
    go_simp
    try with_reducible rfl
  show anyK _ _ _ _ _ _ _ _ (Act.put _ (some 23) _) _
  simp only [Act.put, List.setIfInBounds_toArray, List.set_cons_zero, List.set_cons_succ]
  refine anyK_take (i := 11) (v := ?_) rfl (by kernel_rfl) (by kernel_rfl) (by kernel_rfl) (N := 14) (by kernel_rfl) (by kernel_rfl) (by kernel_rfl) (fun _ _ _ h => h) (Or.inl ⟨by rfl, ?_⟩) hHeld ?_
  rotate_left 1
  · intro w hSw
    go_simp
    try with_reducible rfl
  show anyK _ _ _ _ _ _ _ _ (Act.put _ (some 25) _) _
  simp only [Act.put, List.setIfInBounds_toArray, List.set_cons_zero, List.set_cons_succ]
  clear hHeld
  refine anyK_one (i := 10) (by kernel_rfl) rfl (fun Kk hKk => ?_)
  go_simp
  (go_at_call 72; refine (HAd.out wc.drew hd0).mono ?_; rintro e w3 ⟨s3, a3, n3, c3, rfl, hI3, hx3⟩)
  have he3 := hd0.trans hx3
  go_wp2_with fail
  refine hKk.out _ _ (fun _ => ⟨⟨cellKeep he3 hbl l0, cellKeep he3 hbl l1⟩, cellKeep he3 hgl' y0, cellKeep he3 hgl' y1⟩) ?_
  clear hKk Kk
  simp only [List.setIfInBounds_toArray, List.set_cons_zero, List.set_cons_succ]
  have hHeld : (w3.cell? ⟨H, 0, none⟩ = some (.int .i64 s2) ∧ w3.cell? ⟨H, 1, none⟩ = some (.slice a2 n2 c2)) ∧ w3.cell? ⟨g, j * 2, none⟩ = some (.int .i64 s1) ∧ w3.cell? ⟨g, j * 2 + 1, none⟩ = some (.slice a1 n1 c1) := ⟨⟨cellKeep he3 hbl l0, cellKeep he3 hbl l1⟩, cellKeep he3 hgl' y0, cellKeep he3 hgl' y1⟩
  refine anyK_take (i := 12) (v := ?_) rfl (by kernel_rfl) (by kernel_rfl) (by kernel_rfl) (N := 14) (by kernel_rfl) (by kernel_rfl) (by kernel_rfl) (fun _ _ _ h => h) (Or.inl ⟨by rfl, ?_⟩) hHeld ?_
  rotate_left 1
  · intro w hSw
    go_simp
    try with_reducible rfl
  show anyK _ _ _ _ _ _ _ _ (Act.put _ (some 26) _) _
  simp only [Act.put, List.setIfInBounds_toArray, List.set_cons_zero, List.set_cons_succ]
  clear hHeld
  have hN3 := HN.out.ext he3
  obtain ⟨s4, a4, n4, c4, z0, z1, fz0, fz1, _⟩ := hN3.get j (by have := Hm.out; omega)
  have hset := hN3.set j (by have := Hm.out; omega) hI3
  have hkp := hN3.keep j (by have := Hm.out; omega) s3 (.slice a3 n3 c3)
  refine anyK_one (i := 13) (by kernel_rfl) rfl (fun Kk hKk => ?_)
  refine stepK_storeW rfl rfl _ _ rfl g (j * 2) s3 a3 n3 c3 _ _ rfl rfl z0 z1 fz0 fz1 ?_
  refine hKk.out _ _ (fun h => Bool.noConfusion (show true = false from h)) ?_
  clear hKk Kk
  simp only [List.setIfInBounds_toArray, List.set_cons_zero, List.set_cons_succ]
  refine anyK_done (by kernel_rfl) ?_ _
  have hP : Only g w3 ((w3.setCell ⟨g, j * 2, none⟩ (.int .i64 s3)).setCell ⟨g, j * 2 + 1, none⟩ (.slice a3 n3 c3)) := ((Only.refl _ _).setCell _ _).setCell _ _
  have Hend := Lib.hid (show Nums ((w3.setCell ⟨g, j * 2, none⟩ (.int .i64 s3)).setCell ⟨g, j * 2 + 1, none⟩ (.slice a3 n3 c3)) g m t (addN f k z) ∧ Chg g w ((w3.setCell ⟨g, j * 2, none⟩ (.int .i64 s3)).setCell ⟨g, j * 2 + 1, none⟩ (.slice a3 n3 c3)) from
    ⟨by unfold addN; rw [hj]; exact hset, (Chg.of_ext (HE.out.trans he3)).trans (Chg.of_only hP hkp)⟩)
  clear hset hkp hP hN3 z0 z1 fz0 fz1 y0 y1 fr0 fr1 l0 l1
  generalize (w3.setCell ⟨g, j * 2, none⟩ (.int .i64 s3)).setCell ⟨g, j * 2 + 1, none⟩ (.slice a3 n3 c3) = V at *
  go_wp2_with fail
  go_end0
  exact ⟨rfl, Hend.out⟩
end Go.Proofs.YtldkomeacocjbaaGreatDoor
namespace Go.Proofs.YtldkomeacocjbaaGreatDoor
open Go.RowKit

/-- What addProduct makes of the numbers, as far as the i-th of the other row. -/
def mulN (f : Nat → Int) (k z : Int) (f2 : Nat → Int) : Nat → Nat → Int
  | 0 => f
  | i + 1 => addN (mulN f k z f2 i) (k + i) (z * f2 i)
theorem addN_abs (f : Nat → Int) (k z : Int) (A P : Nat) (hA : ∀ i, i < 8 → (f i).natAbs ≤ A) (hP : z.natAbs ≤ P) : ∀ i, i < 8 → (addN f k z i).natAbs ≤ A + P := fun i hi => by
  unfold addN updN
  split
  · rename_i e
    have h1 := hA (k % 8).toNat (by omega)
    unfold sgK
    split <;> omega
  · have := hA i hi; omega
theorem mulN_abs (f : Nat → Int) (k z : Int) (f2 : Nat → Int) (A P : Nat) (hA : ∀ i, i < 8 → (f i).natAbs ≤ A) (hP : ∀ i, i < 8 → (z * f2 i).natAbs ≤ P) : ∀ j, j ≤ 8 → ∀ i, i < 8 → (mulN f k z f2 j i).natAbs ≤ A + j * P
  | 0, _, i, hi => by have := hA i hi; simp only [mulN]; omega
  | j + 1, hj, i, hi => by
    have h1 := addN_abs (mulN f k z f2 j) (k + j) (z * f2 j) (A + j * P) P (mulN_abs f k z f2 A P hA hP j (by omega)) (hP j (by omega)) i hi
    simp only [mulN]
    rw [Nat.succ_mul]
    omega
theorem addN_wrap (f : Nat → Int) (k z : Int) : addN f (IntKind.i64.wrap k) z = addN f k z := by
  have h : IntKind.i64.wrap k % 16 = k % 16 := by rw [IntKind.wrap_i64]; omega
  unfold addN sgK
  rw [h, show IntKind.i64.wrap k % 8 = k % 8 by omega]

set_option maxRecDepth 100000 in
set_option maxHeartbeats 2000000 in
theorem rowAddProduct_any (g m : Nat) (t : TypeId) (f : Nat → Int) (k : Int) (s : Int) (a : Option Addr) (n c : Nat) (z : Int) (g2 m2 : Nat) (t2 : TypeId) (f2 : Nat → Int) (w : World) (h : Nums w g m t f) (hm : 8 ≤ m) (hI : IsInt w s a n c z) (h2 : Nums w g2 m2 t2 f2) (hm2 : 8 ≤ m2) (hne : g2 ≠ g)
    (K A P : Nat) (hK : K ≤ 4194304) (hfz : Fit K z) (hf2 : ∀ i, i < 8 → Fit K (f2 i)) (hA : ∀ i, i < 8 → (f i).natAbs ≤ A) (hP : ∀ i, i < 8 → (z * f2 i).natAbs ≤ P) (hAP : A + 8 * P < B64 ^ K) :
    Calls Tryz.prog 81 #[.pointer (some ⟨g, 0, none⟩), .int .i64 k, .agg #[.int .i64 s, .slice a n c], .pointer (some ⟨g2, 0, none⟩)] w fun e w' => e = .returned (.tuple #[]) ∧ Nums w' g m t (mulN f k z f2 8) ∧ Chg g w w' := by
  have Hh := Lib.hid h; have HI := Lib.hid hI; have Hc := Lib.hid hI.cmp3; have Hfz := Lib.hid hfz; have Hf2 := Lib.hid hf2; have Hm := Lib.hid hm; have HK := Lib.hid hK; have H2 := Lib.hid h2; have Hm2 := Lib.hid hm2
  have Hab := Lib.hid (mulN_abs f k z f2 A P hA hP); have HP := Lib.hid hP; have HAP := Lib.hid hAP
  have hgl := h.lt; have hgl2 := h2.lt
  clear h hI hfz hf2 hm hK h2 hm2 hA hP hAP
  have E0 := Ext.alloc w (.cells #[.int .i64 s, .slice a n c] 24)
  have B0 := box_new w s a n c
  have l0 := B0.c0; have l1 := B0.c1
  have HE0 := Lib.hid E0; have HB0 := Lib.hid B0
  clear E0 B0
  have Hs := Lib.hid (Sign_any s (.slice a n c))
  go_enter Tryz.func81, Tryz.ntmps81
  go_wp2_with fail
  refine (Hs.out _).mono ?_
  rintro e w1 ⟨rfl, hx1⟩
  have HE1 := Lib.hid (HE0.out.trans hx1); have HB1 := Lib.hid (HB0.out.ext hx1)
  clear hx1 l0 l1 HE0 HB0 Hs
  rw [Hc.out]
  obtain ⟨H, hH⟩ : ∃ H, w.heap.size = H := ⟨_, rfl⟩
  rw [hH] at HB1
  rw [hH] at hgl hgl2 ⊢
  clear hH Hc
  by_cases hz : z = 0
  · subst hz
    have b1 : (cmp3 (0 : Int) 0 == 0) = true := by decide
    have e0 : ∀ j i, f i = mulN f k 0 f2 j i := by
      intro j
      induction j with
      | zero => intro i; rfl
      | succ j ih => intro i; rw [ih i]; simp only [mulN, Int.zero_mul]; exact addN_zero _ _ _
    have He0 := Lib.hid e0
    clear e0
    go_wp2_with fail
    refine bodyPost_ret (results_none rfl _ _ _) rfl ?_
    exact ⟨rfl, (Hh.out.ext HE1.out).congr fun i _ => He0.out 8 i, Chg.of_ext HE1.out⟩
  have b1 : (cmp3 z 0 == 0) = false := by
    have : cmp3 z 0 ≠ 0 := fun e => hz (cmp3_zero.1 e)
    simp [this]
  clear hz
  go_wp2_with fail
  clear b1
  go_loopg [8, 12] 8 (fun kk s8 s12 wr => ∃ j : Nat, s12 = .int .i64 (j : Int) ∧ j ≤ 8 ∧ 8 - j = kk ∧ Nums wr g m t (mulN f k z f2 j) ∧ Chg g w wr ∧ Box wr H s a n c)
  case atStart => exact ⟨0, rfl, by omega, by omega, Hh.out.ext HE1.out, Chg.of_ext HE1.out, HB1.out⟩
  case round =>
    clear HE1 HB1
    obtain ⟨j, rfl, hj, hjk, hN, hC, hB⟩ := hrel
    by_cases hj8 : j = 8
    · subst hj8
      have Hend := Lib.hid (And.intro hN hC)
      clear hN hC hB
      go_wp2_with fail
      go_end0
      exact ⟨rfl, Hend.out⟩
    have hlt : j < 8 := by omega
    have q1 : (j : Int) < 8 := by omega
    have q0 : (0 : Int) ≤ (j : Int) := by omega
    have hO := H2.out.chg hC hne
    obtain ⟨s1, a1, n1, c1, y0, y1, _, _, hI1⟩ := hO.get j (by have := Hm2.out; omega)
    have Hc1 := Lib.hid hI1.cmp3; have HI1 := Lib.hid hI1
    have Hs := Lib.hid (Sign_any s1 (.slice a1 n1 c1))
    have HN := Lib.hid hN; have HC := Lib.hid hC; have HB := Lib.hid hB; have HO := Lib.hid hO; have Hjk := Lib.hid hjk
    clear hI1 hN hC hB hO hjk hj8
    obtain ⟨wo, rfl⟩ : ∃ wo : World, wo = wr := ⟨_, rfl⟩
    go_wp2_with fail
    refine (Hs.out wo).mono ?_
    rintro e w2 ⟨rfl, hx2⟩
    have HN2 := Lib.hid (HN.out.ext hx2); have HC2 := Lib.hid (HC.out.trans (Chg.of_ext hx2)); have HB2 := Lib.hid (HB.out.ext hx2); have HO2 := Lib.hid (HO.out.ext hx2); have HI2 := Lib.hid (HI1.out.ext hx2)
    have hgO := HO2.out.lt
    have z0 := cellKeep hx2 HO.out.lt y0; have z1 := cellKeep hx2 HO.out.lt y1
    clear hx2 y0 y1 HN HC HB HO HI1 Hs
    rw [Hc1.out]
    clear Hc1
    have wk : IntKind.i64.wrap ((j : Int) + 1) = ((j + 1 : Nat) : Int) := by rw [IntKind.wrap_i64]; omega
    have Hj1 := Lib.hid (show j + 1 ≤ 8 by omega)
    by_cases hz2 : f2 j = 0
    · have b2 : (cmp3 (f2 j) 0 != 0) = false := rne_f (cmp3_zero.2 hz2)
      have hcg : ∀ i, mulN f k z f2 j i = mulN f k z f2 (j + 1) i := fun i => by
        simp only [mulN, hz2, Int.mul_zero]; exact addN_zero _ _ _
      have Hcg := Lib.hid hcg
      clear hcg hz2 z0 z1
      go_wp2_with fail
      go_roundg (8 - (j + 1))
      case measure => have := Hjk.out; have := Hj1.out; omega
      case rel => exact ⟨j + 1, rfl, Hj1.out, rfl, HN2.out.congr fun i _ => Hcg.out i, HC2.out, HB2.out⟩
    have b2 : (cmp3 (f2 j) 0 != 0) = true := rne_t fun e => hz2 (cmp3_zero.1 e)
    clear hz2
    have l0 := HB2.out.c0; have l1 := HB2.out.c1
    have hbl := HB2.out.lt
    have HMu := Lib.hid (fun wx (hx : Ext w2 wx) => Mul_any s s1 a a1 n c n1 c1 z (f2 j) wx ((HI.out.keep64 HC2.out.keep).ext hx) (HI2.out.ext hx) K HK.out Hfz.out (Hf2.out j hlt))
    go_upto_region 6 with fail
    have hd0 : Ext w2 w2.drew := Below.drew (Ext.refl _)
    refine wp_region_K 11 (fun w' => (w'.cell? ⟨H, 0, none⟩ = some (.int .i64 s) ∧ w'.cell? ⟨H, 1, none⟩ = some (.slice a n c)) ∧ w'.cell? ⟨g2, j * 2, none⟩ = some (.int .i64 s1) ∧ w'.cell? ⟨g2, j * 2 + 1, none⟩ = some (.slice a1 n1 c1)) (by kernel_rfl) ?_
    show anyK _ _ _ _ _ _ 12 #[false, false, false, false, false, false, false, false, false, false, false, false] _ _
    have hHeld : (w2.drew.cell? ⟨H, 0, none⟩ = some (.int .i64 s) ∧ w2.drew.cell? ⟨H, 1, none⟩ = some (.slice a n c)) ∧ w2.drew.cell? ⟨g2, j * 2, none⟩ = some (.int .i64 s1) ∧ w2.drew.cell? ⟨g2, j * 2 + 1, none⟩ = some (.slice a1 n1 c1) := ⟨⟨cellKeep hd0 hbl l0, cellKeep hd0 hbl l1⟩, cellKeep hd0 hgO z0, cellKeep hd0 hgO z1⟩
    refine anyK_take (i := 0) (v := ?_) rfl (by kernel_rfl) (by kernel_rfl) (by kernel_rfl) (N := 12) (by kernel_rfl) (by kernel_rfl) (by kernel_rfl) (fun _ _ _ h => h) (Or.inl ⟨by rfl, ?_⟩) hHeld ?_
    rotate_left 1
    · intro w hSw
      go_simp
      try with_reducible rfl
    show anyK _ _ _ _ _ _ _ _ (Act.put _ (some 22) _) _
    simp only [Act.put, List.setIfInBounds_toArray, List.set_cons_zero, List.set_cons_succ]
    refine anyK_take (i := 1) (v := ?_) rfl (by kernel_rfl) (by kernel_rfl) (by kernel_rfl) (N := 12) (by kernel_rfl) (by kernel_rfl) (by kernel_rfl) (fun _ _ _ h => h) (Or.inl ⟨by rfl, ?_⟩) hHeld ?_
    rotate_left 1
    · intro w hSw
      go_simp
      try with_reducible rfl
    show anyK _ _ _ _ _ _ _ _ (Act.put _ (some 23) _) _
    simp only [Act.put, List.setIfInBounds_toArray, List.set_cons_zero, List.set_cons_succ]
    refine anyK_take (i := 2) (v := ?_) rfl (by kernel_rfl) (by kernel_rfl) (by kernel_rfl) (N := 12) (by kernel_rfl) (by kernel_rfl) (by kernel_rfl) (fun _ _ _ h => h) (Or.inl ⟨by rfl, ?_⟩) hHeld ?_
    rotate_left 1
    · intro w hSw
      go_simp
      try with_reducible rfl
    show anyK _ _ _ _ _ _ _ _ (Act.put _ (some 24) _) _
    simp only [Act.put, List.setIfInBounds_toArray, List.set_cons_zero, List.set_cons_succ]
    refine anyK_take (i := 3) (v := ?_) rfl (by kernel_rfl) (by kernel_rfl) (by kernel_rfl) (N := 12) (by kernel_rfl) (by kernel_rfl) (by kernel_rfl) (fun _ _ _ h => h) (Or.inl ⟨by rfl, ?_⟩) hHeld ?_
    rotate_left 1
    · intro w hSw
      go_simp
      try with_reducible rfl
    show anyK _ _ _ _ _ _ _ _ (Act.put _ (some 25) _) _
    simp only [Act.put, List.setIfInBounds_toArray, List.set_cons_zero, List.set_cons_succ]
    refine anyK_take (i := 4) (v := ?_) rfl (by kernel_rfl) (by kernel_rfl) (by kernel_rfl) (N := 12) (by kernel_rfl) (by kernel_rfl) (by kernel_rfl) (fun _ _ _ h => h) (Or.inl ⟨by rfl, ?_⟩) hHeld ?_
    rotate_left 1
    · intro w hSw
      go_simp
      try with_reducible rfl
    show anyK _ _ _ _ _ _ _ _ (Act.put _ (some 26) _) _
    simp only [Act.put, List.setIfInBounds_toArray, List.set_cons_zero, List.set_cons_succ]
    refine anyK_take (i := 5) (v := ?_) rfl (by kernel_rfl) (by kernel_rfl) (by kernel_rfl) (N := 12) (by kernel_rfl) (by kernel_rfl) (by kernel_rfl) (fun _ _ _ h => h) (Or.inl ⟨by rfl, ?_⟩) hHeld ?_
    rotate_left 1
    · intro w hSw
      go_simp
      try with_reducible rfl
    show anyK _ _ _ _ _ _ _ _ (Act.put _ (some 27) _) _
    simp only [Act.put, List.setIfInBounds_toArray, List.set_cons_zero, List.set_cons_succ]
    refine anyK_take (i := 6) (v := ?_) rfl (by kernel_rfl) (by kernel_rfl) (by kernel_rfl) (N := 12) (by kernel_rfl) (by kernel_rfl) (by kernel_rfl) (fun _ _ _ h => h) (Or.inl ⟨by rfl, ?_⟩) hHeld ?_
    rotate_left 1
    · intro w hSw
      go_simp
      try with_reducible rfl
    show anyK _ _ _ _ _ _ _ _ (Act.put _ (some 28) _) _
    simp only [Act.put, List.setIfInBounds_toArray, List.set_cons_zero, List.set_cons_succ]
    refine anyK_take (i := 7) (v := ?_) rfl (by kernel_rfl) (by kernel_rfl) (by kernel_rfl) (N := 12) (by kernel_rfl) (by kernel_rfl) (by kernel_rfl) (fun _ _ _ h => h) (Or.inl ⟨by rfl, ?_⟩) hHeld ?_
    rotate_left 1
    · intro w hSw
      go_simp
      try with_reducible rfl
    show anyK _ _ _ _ _ _ _ _ (Act.put _ (some 29) _) _
    simp only [Act.put, List.setIfInBounds_toArray, List.set_cons_zero, List.set_cons_succ]
    refine anyK_take (i := 8) (v := ?_) rfl (by kernel_rfl) (by kernel_rfl) (by kernel_rfl) (N := 12) (by kernel_rfl) (by kernel_rfl) (by kernel_rfl) (fun _ _ _ h => h) (Or.inl ⟨by rfl, ?_⟩) hHeld ?_
    rotate_left 1
    · intro w hSw
      go_simp
      try with_reducible rfl
    show anyK _ _ _ _ _ _ _ _ (Act.put _ (some 30) _) _
    simp only [Act.put, List.setIfInBounds_toArray, List.set_cons_zero, List.set_cons_succ]
    refine anyK_take (i := 9) (v := ?_) rfl (by kernel_rfl) (by kernel_rfl) (by kernel_rfl) (N := 12) (by kernel_rfl) (by kernel_rfl) (by kernel_rfl) (fun _ _ _ h => h) (Or.inl ⟨by rfl, ?_⟩) hHeld ?_
    rotate_left 1
    · intro w hSw
      go_simp
      try with_reducible rfl
    show anyK _ _ _ _ _ _ _ _ (Act.put _ (some 31) _) _
    simp only [Act.put, List.setIfInBounds_toArray, List.set_cons_zero, List.set_cons_succ]
    clear hHeld
    refine anyK_one (i := 10) (by kernel_rfl) rfl (fun Kk hKk => ?_)
    go_simp
    (go_at_call 109; refine (HMu.out w2.drew hd0).mono ?_; rintro e w3 ⟨s3, a3, n3, c3, rfl, hI3, hx3⟩)
    have he3 := hd0.trans hx3
    go_wp2_with fail
    refine hKk.out _ _ (fun _ => ⟨⟨cellKeep he3 hbl l0, cellKeep he3 hbl l1⟩, cellKeep he3 hgO z0, cellKeep he3 hgO z1⟩) ?_
    clear hKk Kk
    simp only [List.setIfInBounds_toArray, List.set_cons_zero, List.set_cons_succ]
    have HAd := Lib.hid (rowAdd_any g m t (mulN f k z f2 j) (IntKind.i64.wrap (k + j)) s3 a3 n3 c3 _ w3 (HN2.out.ext he3) Hm.out hI3 K HK.out (by
      have h1 := HP.out j hlt; have h2 := HAP.out
      unfold Fit; omega) (fun i hi => by
      have h1 := Hab.out j (by omega) i hi; have h2 := HAP.out
      have h3 : j * P ≤ 8 * P := Nat.mul_le_mul_right P (by omega)
      unfold Fit; omega))
    rw [addN_wrap] at HAd
    refine anyK_one (i := 11) (by kernel_rfl) rfl (fun Kk hKk => ?_)
    go_simp
    (go_at_call 74; refine HAd.out.mono ?_; rintro e w4 ⟨rfl, hN4, hC4⟩)
    have Hend := Lib.hid (show Nums w4 g m t (mulN f k z f2 (j + 1)) ∧ Chg g w w4 ∧ Box w4 H s a n c from
      ⟨hN4, (HC2.out.trans (Chg.of_ext he3)).trans hC4, ⟨(hC4.block H (by omega) (Nat.lt_of_lt_of_le hbl he3.size)).trans (HB2.out.ext he3).row⟩⟩)
    clear hN4 hC4 HAd hI3 hx3 he3 HMu l0 l1 z0 z1 HN2 HC2 HB2 HO2 HI2
    go_wp2_with fail
    refine hKk.out _ _ (fun h => Bool.noConfusion (show true = false from h)) ?_
    clear hKk Kk
    simp only [List.setIfInBounds_toArray, List.set_cons_zero, List.set_cons_succ]
    refine anyK_done (by kernel_rfl) ?_ _
    go_wp2_with fail
    go_roundg (8 - (j + 1))
    case measure => have := Hjk.out; have := Hj1.out; omega
    case rel => exact ⟨j + 1, rfl, Hj1.out, rfl, Hend.out⟩
end Go.Proofs.YtldkomeacocjbaaGreatDoor
namespace Go.Proofs.YtldkomeacocjbaaGreatDoor
open Go.RowKit

/-- What twos has found among the first j: -1 where all are nought; else how often 2 divides them all. -/
def TwN (f : Nat → Int) (j : Nat) (B : Nat) (T : Int) : Prop := (T = -1 ∧ ∀ i, i < j → f i = 0) ∨ ∃ t : Nat, T = (t : Int) ∧ t < B ∧ (∀ i, i < j → 2 ^ t ∣ (f i).natAbs) ∧ ∃ i, i < j ∧ Tw (f i).natAbs t
theorem Tw.dvd_of_le {v t u : Nat} (h : Tw v t) (hu : u ≤ t) : 2 ^ u ∣ v := by
  obtain ⟨m, rfl⟩ := h
  exact Nat.dvd_trans (Nat.pow_dvd_pow 2 hu) (Nat.dvd_mul_right _ _)
theorem TwN.zero {f : Nat → Int} {j B : Nat} {T : Int} (h : TwN f j B T) (hz : f j = 0) : TwN f (j + 1) B T := by
  rcases h with ⟨h1, h2⟩ | ⟨t, h1, hb, h2, i, h3, h4⟩
  · refine Or.inl ⟨h1, fun i hi => ?_⟩
    by_cases e : i = j
    · rw [e]; exact hz
    · exact h2 i (by omega)
  · refine Or.inr ⟨t, h1, hb, fun i hi => ?_, i, by omega, h4⟩
    by_cases e : i = j
    · rw [e, hz]; exact Nat.dvd_zero _
    · exact h2 i (by omega)
theorem TwN.less {f : Nat → Int} {j B : Nat} {T : Int} {u : Nat} (h : TwN f j B T) (hu : Tw (f j).natAbs u) (hb : u < B) (hc : T < 0 ∨ (u : Int) < T) : TwN f (j + 1) B (u : Int) := by
  refine Or.inr ⟨u, rfl, hb, fun i hi => ?_, j, by omega, hu⟩
  by_cases e : i = j
  · rw [e]; exact hu.dvd_of_le (Nat.le_refl _)
  · rcases h with ⟨h1, h2⟩ | ⟨t, h1, hb', h2, _⟩
    · rw [h2 i (by omega)]; exact Nat.dvd_zero _
    · exact Nat.dvd_trans (Nat.pow_dvd_pow 2 (by omega)) (h2 i (by omega))
theorem TwN.more {f : Nat → Int} {j B : Nat} {T : Int} {u : Nat} (h : TwN f j B T) (hu : Tw (f j).natAbs u) (h0 : ¬ T < 0) (hc : ¬ (u : Int) < T) : TwN f (j + 1) B T := by
  rcases h with ⟨h1, h2⟩ | ⟨t, h1, hb', h2, i, h3, h4⟩
  · omega
  · refine Or.inr ⟨t, h1, hb', fun i hi => ?_, i, by omega, h4⟩
    by_cases e : i = j
    · rw [e]; exact hu.dvd_of_le (by omega)
    · exact h2 i (by omega)

theorem dec_t {p : Prop} [Decidable p] (h : p) : decide p = true := by simp [h]
theorem dec_f {p : Prop} [Decidable p] (h : ¬ p) : decide p = false := by simp [h]

set_option maxRecDepth 100000 in
set_option maxHeartbeats 2000000 in
theorem rowTwos_any (g m : Nat) (t : TypeId) (f : Nat → Int) (w : World) (h : Nums w g m t f) (hm : 8 ≤ m) (K : Nat) (hK : K ≤ 4194304) (hF : ∀ i, i < 8 → Fit K (f i)) (hbr : Bru w) :
    Calls Tryz.prog 105 #[.pointer (some ⟨g, 0, none⟩)] w fun e w' => (∃ T : Int, e = .returned (.int .i64 T) ∧ TwN f 8 (64 * K + 64) T) ∧ Ext w w' := by
  have Hh := Lib.hid h; have Hm := Lib.hid hm; have HK := Lib.hid hK; have HF := Lib.hid hF; have Hbr := Lib.hid hbr
  clear h hm hK hF hbr
  go_enter Tryz.func105, Tryz.ntmps105
  go_wp2_with fail
  go_loopg [3, 4, 5, 6] 8 (fun kk s3 s4 s5 s6 wr => ∃ (j : Nat) (T : Int), s6 = .int .i64 (j : Int) ∧ s3 = .int .i64 T ∧ j ≤ 8 ∧ 8 - j = kk ∧ TwN f j (64 * K + 64) T ∧ Ext w wr)
  case atStart => exact ⟨0, -1, rfl, rfl, by omega, by omega, Or.inl ⟨rfl, fun i hi => by omega⟩, Ext.refl _⟩
  case round =>
    obtain ⟨j, T, rfl, rfl, hj, hjk, hT, hx⟩ := hrel
    by_cases hj8 : j = 8
    · subst hj8
      have HT := Lib.hid hT
      clear hT
      go_wp2_with fail
      go_ret
      exact ⟨⟨T, rfl, HT.out⟩, hx⟩
    have hlt : j < 8 := by omega
    have q1 : (j : Int) < 8 := by omega
    have q0 : (0 : Int) ≤ (j : Int) := by omega
    have wk : IntKind.i64.wrap ((j : Int) + 1) = ((j + 1 : Nat) : Int) := by rw [IntKind.wrap_i64]; omega
    have Hj1 := Lib.hid (show j + 1 ≤ 8 by omega)
    have hO := Hh.out.ext hx
    obtain ⟨s, a, n, c, y0, y1, _, _, hI⟩ := hO.get j (by have := Hm.out; omega)
    have Hc := Lib.hid hI.cmp3; have HI := Lib.hid hI
    have Hs := Lib.hid (Sign_any s (.slice a n c))
    have HT := Lib.hid hT; have Hx := Lib.hid hx; have Hjk := Lib.hid hjk
    have hgl := hO.lt
    clear hI hT hx hjk hj8 hO
    obtain ⟨wo, rfl⟩ : ∃ wo : World, wo = wr := ⟨_, rfl⟩
    go_wp2_with fail
    refine (Hs.out wo).mono ?_
    rintro e w2 ⟨rfl, hx2⟩
    have Hx2 := Lib.hid (Hx.out.trans hx2); have HI2 := Lib.hid (HI.out.ext hx2)
    have z0 := cellKeep hx2 hgl y0; have z1 := cellKeep hx2 hgl y1
    clear hx2 y0 y1 Hs Hx HI
    rw [Hc.out]
    clear Hc
    by_cases hz : f j = 0
    · have b2 : (cmp3 (f j) 0 == 0) = true := by rw [hz]; rfl
      have HT' := Lib.hid (HT.out.zero hz)
      clear hz
      go_wp2_with fail
      go_roundg (8 - (j + 1))
      case measure => have := Hjk.out; have := Hj1.out; omega
      case rel => exact ⟨j + 1, T, rfl, rfl, Hj1.out, rfl, HT'.out, Hx2.out⟩
    have b2 : (cmp3 (f j) 0 == 0) = false := by
      have : cmp3 (f j) 0 ≠ 0 := fun e => hz (cmp3_zero.1 e)
      simp [this]
    have hnK : n ≤ K := HI2.out.len (HF.out j hlt)
    have HTw := Lib.hid (Twos_any s a n c (f j) w2 HI2.out (by have := HK.out; omega) (bru_ext Hbr.out Hx2.out))
    have Hz := Lib.hid hz; have HnK := Lib.hid hnK
    clear hz hnK
    go_wp2_with fail
    refine HTw.out.mono ?_
    rintro e w3 ⟨u, rfl, hu1, _, hu2, hx3⟩
    have Hu := Lib.hid (hu1 Hz.out); have Hu2 := Lib.hid (show u < 64 * K + 64 by have := HnK.out; omega); have Hx3 := Lib.hid (Hx2.out.trans hx3)
    clear hu1 hu2 hx3 HTw z0 z1 Hx2 HI2 b2 Hz HnK
    by_cases hc0 : T < 0
    · have b3 := dec_t hc0
      have HT' := Lib.hid (HT.out.less Hu.out Hu2.out (Or.inl hc0))
      go_wp2_with fail
      go_roundg (8 - (j + 1))
      case measure => have := Hjk.out; have := Hj1.out; omega
      case rel => exact ⟨j + 1, (u : Int), rfl, rfl, Hj1.out, rfl, HT'.out, Hx3.out⟩
    · have b3 := dec_f hc0
      by_cases hc1 : (u : Int) < T
      · have b4 := dec_t hc1
        have HT' := Lib.hid (HT.out.less Hu.out Hu2.out (Or.inr hc1))
        go_wp2_with fail
        go_roundg (8 - (j + 1))
        case measure => have := Hjk.out; have := Hj1.out; omega
        case rel => exact ⟨j + 1, (u : Int), rfl, rfl, Hj1.out, rfl, HT'.out, Hx3.out⟩
      · have b4 := dec_f hc1
        have HT' := Lib.hid (HT.out.more Hu.out hc0 hc1)
        go_wp2_with fail
        go_roundg (8 - (j + 1))
        case measure => have := Hjk.out; have := Hj1.out; omega
        case rel => exact ⟨j + 1, T, rfl, rfl, Hj1.out, rfl, HT'.out, Hx3.out⟩
end Go.Proofs.YtldkomeacocjbaaGreatDoor
namespace Go.Proofs.YtldkomeacocjbaaGreatDoor
open Go.RowKit

theorem two_cast (k : Nat) : ((2 ^ k : Nat) : Int) = (2 : Int) ^ k := by simp

theorem zfi_new (w : World) (o1 o2 : Obj) : ((w.alloc o1).alloc o2 |>.alloc (.cells #[.int .i64 0, .int .i64 0] 30)).heap[w.heap.size + 1 + 1]? = some (.cells #[.int .i64 0, .int .i64 0] 30 (0, 0)) := by
  have h := heap_alloc_new ((w.alloc o1).alloc o2) (.cells #[.int .i64 0, .int .i64 0] 30)
  rw [show ((w.alloc o1).alloc o2).heap.size = w.heap.size + 1 + 1 from by simp] at h
  exact h

set_option maxHeartbeats 2000000 in
set_option maxRecDepth 100000 in
/-- Shift, within its bounds: upward. -/
theorem Shift_up (sm : Int) (ao : Option Addr) (n c : Nat) (z : Int) (N : Nat) (w : World) (h : IsInt w sm ao n c z) (hN : N ≤ 10000) (K : Nat) (hK : K ≤ 4194304) (hf : Fit K z) :
    Calls Tryz.prog 97 #[.agg #[.int .i64 sm, .slice ao n c], .int .i64 (N : Int)] w fun e w' => ∃ (s' : Int) (a' : Option Addr) (n' c' : Nat), e = .returned (.tuple #[.agg #[.int .i64 s', .slice a' n' c'], .agg #[.int .i64 0, .int .i64 0]]) ∧ IsInt w' s' a' n' c' (z * ((2 ^ N : Nat) : Int)) ∧ Ext w w' := by
  have hE := (Ext.trans (Ext.trans (Ext.alloc w (.cells #[.int .i64 sm, .slice ao n c] 24)) (Ext.alloc _ (.cells #[.int .i64 0, .slice none 0 0] 24))) (Ext.alloc _ (.cells #[.int .i64 0, .int .i64 0] 30)))
  have hR : Res (((w.alloc (.cells #[.int .i64 sm, .slice ao n c] 24)).alloc (.cells #[.int .i64 0, .slice none 0 0] 24)).alloc (.cells #[.int .i64 0, .int .i64 0] 30)) (w.heap.size + 1) := by
    have h1 := heap_alloc_new (w.alloc (.cells #[.int .i64 sm, .slice ao n c] 24)) (.cells #[.int .i64 0, .slice none 0 0] 24)
    rw [show (w.alloc (.cells #[.int .i64 sm, .slice ao n c] 24)).heap.size = w.heap.size + 1 from by simp] at h1
    exact ⟨by simp, (Below.heap_alloc _ _ _ (by simp)).trans h1⟩
  have hF : FRes (((w.alloc (.cells #[.int .i64 sm, .slice ao n c] 24)).alloc (.cells #[.int .i64 0, .slice none 0 0] 24)).alloc (.cells #[.int .i64 0, .int .i64 0] 30)) (w.heap.size + 1 + 1) :=
    ⟨by simp, zfi_new w _ _⟩
  have H := hid h; have Hf := hid hf
  have i1 : ¬ (N : Int) < -10000 := by omega
  have i2 : ¬ (10000 : Int) < (N : Int) := by omega
  have i3 : ¬ (N : Int) < 0 := by omega
  have hw : IntKind.u64.wrap (N : Int) = (N : Int) := by rw [IntKind.wrap_u64]; omega
  clear h hf
  go_enter Tryz.func97, Tryz.ntmps97
  go_wp2_with fail
  generalize ((w.alloc (.cells #[.int .i64 sm, .slice ao n c] 24)).alloc (.cells #[.int .i64 0, .slice none 0 0] 24)).alloc (.cells #[.int .i64 0, .int .i64 0] 30) = W0 at *
  refine (double_any sm ao n c z N W0 (H.out.ext hE) (by omega) K hK Hf.out).mono ?_
  rintro e w3 ⟨s4, a4, n4, c4, rfl, hI4, he4⟩
  have hr4 := hR.ext he4; have hf4 := hF.ext he4
  have k0 := hr4.c0; have k1 := hr4.c1; have g0 := hr4.f0; have g1 := hr4.f1
  have k2 := hf4.c0; have k3 := hf4.c1; have g2 := hf4.f0; have g3 := hf4.f1
  go_wp2_with fail
  exact bodyPost_ret (v := .tuple #[.agg #[.int .i64 s4, .slice a4 n4 c4], .agg #[.int .i64 0, .int .i64 0]]) (by simp [results, Tryz.results97, go_sem, k0, k1, k2, k3]) rfl
    ⟨s4, a4, n4, c4, rfl, (hI4.cast (by rw [two_cast])).keep64 (Keep64.set4 (.i64 k0) (.slice k1) (.i64 k2) (.i64 k3) (notW_i64 _) (notW_slice _ _ _) (notW_i64 _) _), ((((hE.trans he4).set (show w.heap.size ≤ w.heap.size + 1 by omega) _).set (show w.heap.size ≤ w.heap.size + 1 by omega) _).set (show w.heap.size ≤ w.heap.size + 1 + 1 by omega) _).set (show w.heap.size ≤ w.heap.size + 1 + 1 by omega) _⟩

set_option maxHeartbeats 2000000 in
set_option maxRecDepth 100000 in
/-- Downward. -/
theorem Shift_down (sm : Int) (ao : Option Addr) (n c : Nat) (z : Int) (N : Nat) (w : World) (h : IsInt w sm ao n c z) (hN : N ≤ 10000) (hN1 : 1 ≤ N) (K : Nat) (hK : K ≤ 4194304) (hK1 : 1 ≤ K) (hf : Fit K z) (hbr : Bru w) :
    Calls Tryz.prog 97 #[.agg #[.int .i64 sm, .slice ao n c], .int .i64 (-(N : Int))] w fun e w' => ∃ (s' : Int) (a' : Option Addr) (n' c' : Nat), e = .returned (.tuple #[.agg #[.int .i64 s', .slice a' n' c'], .agg #[.int .i64 0, .int .i64 0]]) ∧ IsInt w' s' a' n' c' (z / ((2 ^ N : Nat) : Int)) ∧ Ext w w' := by
  have hE := (Ext.trans (Ext.trans (Ext.alloc w (.cells #[.int .i64 sm, .slice ao n c] 24)) (Ext.alloc _ (.cells #[.int .i64 0, .slice none 0 0] 24))) (Ext.alloc _ (.cells #[.int .i64 0, .int .i64 0] 30)))
  have hR : Res (((w.alloc (.cells #[.int .i64 sm, .slice ao n c] 24)).alloc (.cells #[.int .i64 0, .slice none 0 0] 24)).alloc (.cells #[.int .i64 0, .int .i64 0] 30)) (w.heap.size + 1) := by
    have h1 := heap_alloc_new (w.alloc (.cells #[.int .i64 sm, .slice ao n c] 24)) (.cells #[.int .i64 0, .slice none 0 0] 24)
    rw [show (w.alloc (.cells #[.int .i64 sm, .slice ao n c] 24)).heap.size = w.heap.size + 1 from by simp] at h1
    exact ⟨by simp, (Below.heap_alloc _ _ _ (by simp)).trans h1⟩
  have hF : FRes (((w.alloc (.cells #[.int .i64 sm, .slice ao n c] 24)).alloc (.cells #[.int .i64 0, .slice none 0 0] 24)).alloc (.cells #[.int .i64 0, .int .i64 0] 30)) (w.heap.size + 1 + 1) :=
    ⟨by simp, zfi_new w _ _⟩
  have H := hid h; have Hf := hid hf; have Hbr := hid hbr
  obtain ⟨k, hk⟩ : ∃ k : Int, -(N : Int) = k := ⟨_, rfl⟩
  rw [hk]
  have i1 : ¬ k < -10000 := by omega
  have i2 : ¬ (10000 : Int) < k := by omega
  have i3 : k < 0 := by omega
  have i4 : -9223372036854775808 ≤ k := by omega
  have hw1 : IntKind.i64.wrap (-k) = (N : Int) := by rw [IntKind.wrap_i64]; omega
  have hw0 : -k = (N : Int) := by omega
  have hw : IntKind.u64.wrap (N : Int) = (N : Int) := by rw [IntKind.wrap_u64]; omega
  clear h hf hbr hk
  go_enter Tryz.func97, Tryz.ntmps97
  go_wp2_with fail
  generalize ((w.alloc (.cells #[.int .i64 sm, .slice ao n c] 24)).alloc (.cells #[.int .i64 0, .slice none 0 0] 24)).alloc (.cells #[.int .i64 0, .int .i64 0] 30) = W0 at *
  refine (halve_any sm ao n c z N W0 (H.out.ext hE) (by omega) K hK hK1 Hf.out (bru_ext Hbr.out hE)).mono ?_
  rintro e w3 ⟨s4, a4, n4, c4, rfl, hI4, he4⟩
  have hr4 := hR.ext he4; have hf4 := hF.ext he4
  have k0 := hr4.c0; have k1 := hr4.c1; have g0 := hr4.f0; have g1 := hr4.f1
  have k2 := hf4.c0; have k3 := hf4.c1; have g2 := hf4.f0; have g3 := hf4.f1
  go_wp2_with fail
  exact bodyPost_ret (v := .tuple #[.agg #[.int .i64 s4, .slice a4 n4 c4], .agg #[.int .i64 0, .int .i64 0]]) (by simp [results, Tryz.results97, go_sem, k0, k1, k2, k3]) rfl
    ⟨s4, a4, n4, c4, rfl, (hI4.cast (by rw [two_cast])).keep64 (Keep64.set4 (.i64 k0) (.slice k1) (.i64 k2) (.i64 k3) (notW_i64 _) (notW_slice _ _ _) (notW_i64 _) _), ((((hE.trans he4).set (show w.heap.size ≤ w.heap.size + 1 by omega) _).set (show w.heap.size ≤ w.heap.size + 1 by omega) _).set (show w.heap.size ≤ w.heap.size + 1 + 1 by omega) _).set (show w.heap.size ≤ w.heap.size + 1 + 1 by omega) _⟩

end Go.Proofs.YtldkomeacocjbaaGreatDoor
namespace Go.Proofs.YtldkomeacocjbaaGreatDoor
open Go.RowKit

/-- V is z times 2^b; below 0, z is so often divisible. -/
def ShV (b z V : Int) : Prop := (0 ≤ b ∧ z * ((2 ^ b.toNat : Nat) : Int) = V) ∨ (b ≤ 0 ∧ z = V * ((2 ^ (-b).toNat : Nat) : Int))
theorem ShV.zero {z V : Int} (h : ShV 0 z V) : z = V := by
  rcases h with ⟨_, h⟩ | ⟨_, h⟩ <;> simpa using h
theorem ShV.up {b z V : Int} {N : Nat} (h : ShV b z V) (hb : 0 < b) (hN : (N : Int) ≤ b) : ShV (b - N) (z * ((2 ^ N : Nat) : Int)) V := by
  rcases h with ⟨_, h⟩ | ⟨h0, _⟩
  · refine Or.inl ⟨by omega, ?_⟩
    rw [← h, Int.mul_assoc, ← Int.natCast_mul, ← Nat.pow_add]
    congr 4
    omega
  · omega
theorem ShV.down {b z V : Int} {N : Nat} (h : ShV b z V) (hb : b < 0) (hN : b ≤ -(N : Int)) : ShV (b + N) (z / ((2 ^ N : Nat) : Int)) V := by
  rcases h with ⟨h0, _⟩ | ⟨_, h⟩
  · omega
  · refine Or.inr ⟨by omega, ?_⟩
    have e : (-b).toNat = (-(b + N)).toNat + N := by omega
    rw [h, e, Nat.pow_add, Int.natCast_mul, ← Int.mul_assoc, Int.mul_ediv_cancel]
    have : 0 < 2 ^ N := Nat.pow_pos (by decide)
    omega
theorem ShV.fit {b z V : Int} {K : Nat} (h : ShV b z V) (hb : 0 ≤ b) (hV : Fit K V) : Fit K z := by
  unfold Fit at *
  rcases h with ⟨_, h⟩ | ⟨h0, h⟩
  · rw [← h, Int.natAbs_mul, Int.natAbs_natCast] at hV
    have : 0 < 2 ^ b.toNat := Nat.pow_pos (by decide)
    have := Nat.le_mul_of_pos_right z.natAbs this
    omega
  · obtain rfl : b = 0 := by omega
    simp at h
    rw [h]; exact hV
theorem Fit.div {z : Int} {K N : Nat} (h : Fit K z) : Fit K (z / ((2 ^ N : Nat) : Int)) := by
  unfold Fit at *
  have h1 := Int.natAbs_ediv_le_natAbs z ((2 ^ N : Nat) : Int)
  omega
end Go.Proofs.YtldkomeacocjbaaGreatDoor
