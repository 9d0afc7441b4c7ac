/-
  The reference's numbers: digits to the base 10000 in slices of ints. What memory holds; zmade.
-/
import Derived.Test.YtfjbhiihfibbaaaDoorMBase
import Derived.Test.YtfjbhiihfibbaaaDoorRows
import Derived.OwnWalk
import Derived.Laws.ResultCell
import Derived.Lib.Hide
import Derived.BigQuiet
import Derived.Deep.QuietTactic

namespace Go.Proofs.YtfjbhiihfibbaaaDoor
open Go.RowKit

/-- Block b holds ints. -/
def IBlk (w : World) (b : Nat) : Prop := ∃ (cur : Array Value) (fr : Nat × Nat), w.heap[b]? = some (.cells cur 3 fr)
theorem IBlk.lt {w : World} {b : Nat} (h : IBlk w b) : b < w.heap.size := by
  obtain ⟨cur, fr, h⟩ := h
  exact (Array.getElem?_eq_some_iff.1 h).1
theorem IBlk.block {w w' : World} {b : Nat} (h : IBlk w b) (k : w'.heap[b]? = w.heap[b]?) : IBlk w' b := by
  obtain ⟨cur, fr, h⟩ := h
  exact ⟨cur, fr, k.trans h⟩

/-- The ints l lie at ao. -/
def ISeg (w : World) (ao : Option Addr) (l : List Nat) : Prop :=
  (ao = none ∧ l = []) ∨ ∃ b o, ao = some ⟨b, o, none⟩ ∧ IBlk w b ∧ ∀ t, t < l.length → w.cell? ⟨b, o + t, none⟩ = some (.int .i64 (l.getD t 0 : Nat))

theorem ISeg.ext {w w' : World} {ao : Option Addr} {l : List Nat} (h : ISeg w ao l) (k : Ext w w') : ISeg w' ao l := by
  rcases h with h | ⟨b, o, rfl, hb, hc⟩
  · exact Or.inl h
  · exact Or.inr ⟨b, o, rfl, hb.block (k.block b hb.lt), fun t ht => (k.cell (p := ⟨b, o + t, none⟩) hb.lt).trans (hc t ht)⟩

theorem ISeg.take {w : World} {ao : Option Addr} {l : List Nat} (h : ISeg w ao l) (n : Nat) : ISeg w ao (l.take n) := by
  rcases h with ⟨rfl, rfl⟩ | ⟨b, o, rfl, hb, hc⟩
  · exact Or.inl ⟨rfl, by simp⟩
  · refine Or.inr ⟨b, o, rfl, hb, fun t ht => ?_⟩
    rw [List.length_take] at ht
    rw [hc t (by omega)]
    simp only [List.getD_eq_getElem?_getD, List.getElem?_take]
    rw [if_pos (by omega)]

theorem ISeg.at {w : World} {b o : Nat} {l : List Nat} (h : ISeg w (some ⟨b, o, none⟩) l) (t : Nat) (ht : t < l.length) : w.cell? ⟨b, o + t, none⟩ = some (.int .i64 (l.getD t 0 : Nat)) := by
  rcases h with ⟨h, _⟩ | ⟨b', o', h, _, hc⟩
  · cases h
  · simp only [Option.some.injEq, Addr.mk.injEq, and_true] at h
    obtain ⟨rfl, rfl⟩ := h
    exact hc t ht

theorem ISeg.some_of {w : World} {ao : Option Addr} {l : List Nat} (h : ISeg w ao l) (hl : 0 < l.length) : ∃ b o, ao = some ⟨b, o, none⟩ := by
  rcases h with ⟨_, rfl⟩ | ⟨b, o, h, _⟩
  · simp at hl
  · exact ⟨b, o, h⟩

/-- The number that digits make, the lowest first. -/
def zval : List Nat → Nat
  | [] => 0
  | x :: r => x + 10000 * zval r
theorem zval_append (a b : List Nat) : zval (a ++ b) = zval a + 10000 ^ a.length * zval b := by
  induction a with
  | nil => simp [zval]
  | cons x r ih =>
    rw [List.cons_append, zval, ih, zval, List.length_cons, Nat.pow_succ, Nat.mul_add]
    rw [Nat.mul_comm (10000 ^ r.length) 10000, Nat.mul_assoc]
    omega
theorem zval_snoc (l : List Nat) (x : Nat) : zval (l ++ [x]) = zval l + 10000 ^ l.length * x := by rw [zval_append]; simp [zval]

/-- All are digits. -/
def ZD (l : List Nat) : Prop := ∀ x ∈ l, x < 10000
theorem ZD.nil : ZD [] := fun _ h => by simp at h
theorem ZD.snoc {l : List Nat} {x : Nat} (h : ZD l) (hx : x < 10000) : ZD (l ++ [x]) := fun y hy => by
  simp only [List.mem_append, List.mem_singleton] at hy
  rcases hy with hy | rfl
  · exact h y hy
  · exact hx
theorem ZD.take {l : List Nat} (h : ZD l) (n : Nat) : ZD (l.take n) := fun x hx => h x (List.mem_of_mem_take hx)
theorem ZD.get {l : List Nat} (h : ZD l) (t : Nat) : l.getD t 0 < 10000 := by
  rw [List.getD_eq_getElem?_getD]
  by_cases ht : t < l.length
  · rw [List.getElem?_eq_getElem ht]; exact h _ (List.getElem_mem ht)
  · rw [List.getElem?_eq_none (by omega)]; decide
theorem zval_lt {l : List Nat} (h : ZD l) : zval l < 10000 ^ l.length := by
  induction l with
  | nil => simp [zval]
  | cons x r ih =>
    have h1 := h x (List.mem_cons_self ..)
    have h2 := ih (fun y hy => h y (List.mem_cons_of_mem _ hy))
    rw [zval, List.length_cons, Nat.pow_succ]
    omega

/-- The last digit is not nought. -/
def ZN (l : List Nat) : Prop := l = [] ∨ l.getD (l.length - 1) 0 ≠ 0

theorem take_zsucc (l : List Nat) (k : Nat) (h : k < l.length) : l.take (k + 1) = l.take k ++ [l.getD k 0] := by
  rw [List.take_add_one, List.getD_eq_getElem?_getD, List.getElem?_eq_getElem h]
  rfl

/-- The two cells of a number of the reference hold z. -/
def IsZ (w : World) (neg : Bool) (ao : Option Addr) (n c : Nat) (z : Int) : Prop :=
  ∃ l : List Nat, l.length = n ∧ n ≤ c ∧ c ≤ maxLen ∧ ISeg w ao l ∧ ZD l ∧ ZN l ∧ z = (if neg then -(zval l : Int) else (zval l : Int)) ∧ (l = [] → neg = false)

theorem IsZ.ext {w w' : World} {neg : Bool} {ao : Option Addr} {n c : Nat} {z : Int} (h : IsZ w neg ao n c z) (k : Ext w w') : IsZ w' neg ao n c z := by
  obtain ⟨l, h1, h2, h3, h4, h5⟩ := h
  exact ⟨l, h1, h2, h3, h4.ext k, h5⟩
theorem IsZ.zero (w : World) : IsZ w false none 0 0 0 := ⟨[], rfl, Nat.le_refl _, Nat.zero_le _, Or.inl ⟨rfl, rfl⟩, ZD.nil, Or.inl rfl, rfl, fun _ => rfl⟩
theorem IsZ.cast {w : World} {neg : Bool} {ao : Option Addr} {n c : Nat} {z z' : Int} (h : IsZ w neg ao n c z) (e : z = z') : IsZ w neg ao n c z' := e ▸ h

/-- A number stays what it is while cells that hold no int are written. -/
theorem ISeg.keepRes {w : World} {g : Nat} {ao : Option Addr} {l : List Nat} {x : Bool} {p : Option Addr} {q r : Nat} {T : TypeId} (h : ISeg w ao l) (hg : w.heap[g]? = some (.cells #[.bool x, .slice p q r] T (0, 0))) (u v : Value) :
    ISeg ((w.setCell ⟨g, 0, none⟩ u).setCell ⟨g, 1, none⟩ v) ao l := by
  rcases h with h | ⟨b, o, rfl, hb, hc⟩
  · exact Or.inl h
  · have hO : Only g w ((w.setCell ⟨g, 0, none⟩ u).setCell ⟨g, 1, none⟩ v) := ((Only.refl _ _).setCell _ _).setCell _ _
    have hbk : IBlk ((w.setCell ⟨g, 0, none⟩ u).setCell ⟨g, 1, none⟩ v) b := by
      by_cases hbg : b = g
      · subst hbg
        obtain ⟨cur, fr, hcur⟩ := hb
        rw [hg] at hcur
        cases hcur
        have q1 := heap_setCell_same w b 0 _ _ u hg
        have q2 := heap_setCell_same (w.setCell ⟨b, 0, none⟩ u) b 1 _ _ v q1
        exact ⟨_, _, q2⟩
      · exact hb.block (hO.block b hbg)
    refine Or.inr ⟨b, o, rfl, hbk, fun t ht => ?_⟩
    have h1 := hc t ht
    by_cases hbg : b = g
    · subst hbg
      rw [cell_of_row w b (o + t) _ T (0, 0) hg] at h1
      match o + t, h1 with
      | 0, h1 => simp at h1
      | 1, h1 => simp at h1
      | k + 2, h1 => simp at h1
    · exact (World.cell?_of_block (a := ⟨b, o + t, none⟩) (hO.block b hbg)).trans h1
theorem IsZ.keepRes {w : World} {g : Nat} {neg : Bool} {ao : Option Addr} {n c : Nat} {z : Int} {x : Bool} {p : Option Addr} {q r : Nat} {T : TypeId} (h : IsZ w neg ao n c z) (hg : w.heap[g]? = some (.cells #[.bool x, .slice p q r] T (0, 0))) (u v : Value) :
    IsZ ((w.setCell ⟨g, 0, none⟩ u).setCell ⟨g, 1, none⟩ v) neg ao n c z := by
  obtain ⟨l, h1, h2, h3, h4, h5⟩ := h
  exact ⟨l, h1, h2, h3, h4.keepRes hg u v, h5⟩

/-- The cells of a number of the reference that is answered. -/
structure ZRes (W : World) (g : Nat) : Prop where
  row : W.heap[g]? = some (.cells #[.bool false, .slice none 0 0] 94 (0, 0))
theorem ZRes.lt {W : World} {g : Nat} (h : ZRes W g) : g < W.heap.size := (Array.getElem?_eq_some_iff.1 h.row).1
theorem ZRes.ext {W W' : World} {g : Nat} (h : ZRes W g) (k : Ext W W') : ZRes W' g := ⟨(k.block _ h.lt).trans h.row⟩
theorem ZRes.c0 {W : World} {g : Nat} (h : ZRes W g) : W.cell? ⟨g, 0, none⟩ = some (.bool false) := by rw [cell_of_row W g 0 _ _ (0, 0) h.row]; rfl
theorem ZRes.c1 {W : World} {g : Nat} (h : ZRes W g) : W.cell? ⟨g, 1, none⟩ = some (.slice none 0 0) := by rw [cell_of_row W g 1 _ _ (0, 0) h.row]; rfl
theorem ZRes.f {W : World} {g : Nat} (h : ZRes W g) (o : Nat) : W.frozen? ⟨g, o, none⟩ = false := frozen_of_row W g o _ _ h.row
theorem zres_new (w : World) : ZRes (w.alloc (.cells #[.bool false, .slice none 0 0] 94)) w.heap.size := ⟨heap_alloc_new w _⟩

theorem zval_take_zeros (l : List Nat) (k : Nat) (hk : k ≤ l.length) (h : ∀ t, k ≤ t → t < l.length → l.getD t 0 = 0) : zval (l.take k) = zval l := by
  induction l generalizing k with
  | nil => simp
  | cons x r ih =>
    cases k with
    | zero =>
      have hx : x = 0 := by have := h 0 (Nat.le_refl _) (by simp); simpa using this
      have := ih 0 (by simp) (fun t _ ht => by have := h (t + 1) (by omega) (by simpa using ht); simpa using this)
      simp only [List.take_zero] at this ⊢
      show 0 = x + 10000 * zval r
      rw [hx, ← this]
      rfl
    | succ k =>
      have := ih k (by simpa using hk) (fun t h1 ht => by have := h (t + 1) (by omega) (by simpa using ht); simpa using this)
      rw [List.take_succ_cons, zval, zval, this]

theorem ext_alloc (w : World) (o : Obj) : Ext w (w.alloc o) := (Below.refl _ _).alloc (Nat.le_refl _) o

/-- A call has answered a number of the reference. -/
def ZRet (w : World) (z : Int) (n : Nat) (e : Ending) (w' : World) : Prop := ∃ (b' : Bool) (a' : Option Addr) (n' c' : Nat), e = .returned (.agg #[.bool b', .slice a' n' c']) ∧ IsZ w' b' a' n' c' z ∧ n' ≤ n ∧ Ext w w'

/-- The same, and where its digits lie. -/
def ZRetB (w : World) (z : Int) (n : Nat) (P : Option Addr → Prop) (e : Ending) (w' : World) : Prop := ∃ (b' : Bool) (a' : Option Addr) (n' c' : Nat), e = .returned (.agg #[.bool b', .slice a' n' c']) ∧ IsZ w' b' a' n' c' z ∧ n' ≤ n ∧ Ext w w' ∧ P a'
theorem ZRetB.ret {w : World} {z : Int} {n : Nat} {P : Option Addr → Prop} {e : Ending} {w' : World} (h : ZRetB w z n P e w') : ZRet w z n e w' := by
  obtain ⟨b', a', n', c', h1, h2, h3, h4, _⟩ := h
  exact ⟨b', a', n', c', h1, h2, h3, h4⟩

set_option maxHeartbeats 1000000 in
set_option maxRecDepth 100000 in
theorem zmade_blk (neg : Bool) (ao : Option Addr) (l : List Nat) (n c : Nat) (w : World) (hl : l.length = n) (hs : ISeg w ao l) (hd : ZD l) (hc : n ≤ c) (hcm : c ≤ maxLen) (hn : n ≤ 1000000) (z : Int) (hz : z = if neg then -(zval l : Int) else (zval l : Int)) :
    Calls Tryd.prog 81 #[.bool neg, .slice ao n c] w (ZRetB w z n (fun a' => a' = none ∨ a' = ao)) := by
  have Hz := Lib.hid hz
  clear hz
  have Hl := Lib.hid hl; have Hs := Lib.hid hs; have Hd := Lib.hid hd
  have hE := ext_alloc w (.cells #[.bool false, .slice none 0 0] 94)
  have hR := zres_new w
  have hab : n = 0 ∨ ∃ b o, ao = some ⟨b, o, none⟩ := by
    by_cases h0 : n = 0
    · exact Or.inl h0
    · exact Or.inr (hs.some_of (by omega))
  unfold maxLen at hcm
  clear hl hs hd
  go_enter Tryd.func81, Tryd.ntmps81
  go_wp2_with fail
  generalize w.alloc (.cells #[.bool false, .slice none 0 0] 94) = W0 at *
  have Hs0 := Lib.hid (Hs.out.ext hE)
  go_loop [5] (fun i => ∃ k : Nat, k ≤ n ∧ i = .int .i64 k ∧ ∀ t, k ≤ t → t < n → l.getD t 0 = 0) (fun i => (intOf i).toNat)
  case atStart => exact ⟨n, Nat.le_refl _, rfl, fun t h1 h2 => by omega⟩
  case round =>
    obtain ⟨k, hk, rfl, hall⟩ := hrel
    have Hall := Lib.hid hall
    clear hall
    have Hv : Hid (zval (l.take k) = zval l) := zval_take_zeros l k (by rw [Hl.out]; exact hk) (by rw [Hl.out]; exact Hall.out)
    have fin : ∀ (hz : k = 0 ∨ l.getD (k - 1) 0 ≠ 0), ZN (l.take k) := by
      intro hz
      by_cases h0 : k = 0
      · subst h0; exact Or.inl (by simp)
      · right
        have hlen : (l.take k).length = k := by rw [List.length_take, Hl.out]; omega
        rw [hlen, List.getD_eq_getElem?_getD, List.getElem?_take, if_pos (by omega), ← List.getD_eq_getElem?_getD]
        exact hz.resolve_left h0
    have Fin := Lib.hid fin
    clear fin
    by_cases hk0 : k = 0
    · subst hk0
      have hv0 : zval l = 0 := by rw [← Hv.out]; rfl
      have Hv0 := Lib.hid hv0
      have k0 := hR.c0; have k1 := hR.c1; have f0 := hR.f 0; have f1 := hR.f 1
      clear hv0
      go_wp2_with fail
      exact bodyPost_ret (v := .agg #[.bool false, .slice none 0 0]) (by simp [results, Tryd.results81, go_sem, k0, k1]) rfl ⟨false, none, 0, 0, rfl, (IsZ.zero _).cast (by rw [Hz.out, Hv0.out]; split <;> rfl), Nat.zero_le _, (Below.setCell hE (p := ⟨w.heap.size, 0, none⟩) (Nat.le_refl _) _).setCell (p := ⟨w.heap.size, 1, none⟩) (Nat.le_refl _) _, Or.inl rfl⟩
    · have ik : (0 : Int) < (k : Int) := by omega
      have ik1 : (k : Int) - 1 = ((k - 1 : Nat) : Int) := by omega
      obtain ⟨j, rfl⟩ : ∃ j, k = j + 1 := ⟨k - 1, by omega⟩
      rcases hab with h0 | ⟨b, o, rfl⟩
      · omega
      have hcl := Hs0.out.at j (by rw [Hl.out]; omega)
      obtain ⟨x, hx⟩ : ∃ x, l.getD j 0 = x := ⟨_, rfl⟩
      rw [hx] at hcl
      have Hx := Lib.hid hx
      have ij : (j : Int) < (n : Int) := by omega
      have ij2 : (j : Int) + 1 ≤ (c : Int) := by omega
      clear hx ik1 hk0
      by_cases hx0 : x = 0
      · subst hx0
        go_wp2_with fail
        go_round
        case rel => exact ⟨j, by omega, by go_num, fun t h1 h2 => by
          by_cases e : t = j
          · rw [e]; exact Hx.out
          · exact Hall.out t (by omega) h2⟩
        case measure => simp [intOf]
      · have hxb : ((x : Int) == 0) = false := by rw [beq_eq_false_iff_ne]; omega
        have hjb : ((j : Int) + 1 == 0) = false := by rw [beq_eq_false_iff_ne]; omega
        have Hzn := Lib.hid (Fin.out (Or.inr (by rw [Nat.add_sub_cancel, Hx.out]; exact hx0)))
        have k0 := hR.c0; have k1 := hR.c1; have f0 := hR.f 0; have f1 := hR.f 1
        clear hx0
        go_wp2_with fail
        exact bodyPost_ret (v := .agg #[.bool neg, .slice (some ⟨b, o, none⟩) (j + 1) c]) (by simp [results, Tryd.results81, go_sem, k0, k1]) rfl ⟨neg, some ⟨b, o, none⟩, j + 1, c, rfl, IsZ.keepRes ⟨l.take (j + 1), by rw [List.length_take, Hl.out]; omega, by omega, by unfold maxLen; omega, Hs0.out.take _, Hd.out.take _, Hzn.out, by rw [Hz.out, Hv.out], fun h => by
          have := congrArg List.length h
          rw [List.length_take, Hl.out] at this
          simp at this
          omega⟩ hR.row _ _, by omega, (Below.setCell hE (p := ⟨w.heap.size, 0, none⟩) (Nat.le_refl _) _).setCell (p := ⟨w.heap.size, 1, none⟩) (Nat.le_refl _) _, Or.inr rfl⟩

theorem zmade_any (neg : Bool) (ao : Option Addr) (l : List Nat) (n c : Nat) (w : World) (hl : l.length = n) (hs : ISeg w ao l) (hd : ZD l) (hc : n ≤ c) (hcm : c ≤ maxLen) (hn : n ≤ 1000000) (z : Int) (hz : z = if neg then -(zval l : Int) else (zval l : Int)) :
    Calls Tryd.prog 81 #[.bool neg, .slice ao n c] w (ZRet w z n) :=
  (zmade_blk neg ao l n c w hl hs hd hc hcm hn z hz).mono fun _ _ h => h.ret

end Go.Proofs.YtfjbhiihfibbaaaDoor

/-
  The reference's numbers: zsign, dcmp.
-/
namespace Go.Proofs.YtfjbhiihfibbaaaDoor
open Go.RowKit

theorem zext_drewN {w w' : World} (h : Ext w w') (n : Nat) : Ext w (w'.drewN n) := by
  induction n with
  | zero => exact h
  | succ n ih => exact Below.drew ih

/-- How two numbers stand to each other. -/
def zc (x y : Nat) : Int := if x < y then -1 else if y < x then 1 else 0

/-- Digits whose upper part is the same. -/
theorem zval_split (l : List Nat) (k : Nat) (h : k < l.length) : zval l = zval (l.take k) + 10000 ^ k * (l.getD k 0 + 10000 * zval (l.drop (k + 1))) := by
  have e : l = l.take k ++ (l.getD k 0 :: l.drop (k + 1)) := by
    rw [List.getD_eq_getElem?_getD, List.getElem?_eq_getElem h]
    simp
  have hl : (l.take k).length = k := by rw [List.length_take]; omega
  conv => lhs; rw [e]
  rw [zval_append, hl, zval]

theorem zval_lt_of {a b : List Nat} {k : Nat} (ha : k < a.length) (hb : k < b.length) (hd : ZD a) (h : a.drop (k + 1) = b.drop (k + 1)) (hx : a.getD k 0 < b.getD k 0) : zval a < zval b := by
  rw [zval_split a k ha, zval_split b k hb, h]
  have h1 := zval_lt (hd.take k)
  have hl : (a.take k).length = k := by rw [List.length_take]; omega
  rw [hl] at h1
  generalize 10000 * zval (b.drop (k + 1)) = u
  have h2 : 10000 ^ k * (a.getD k 0 + u + 1) ≤ 10000 ^ k * (b.getD k 0 + u) := Nat.mul_le_mul_left _ (by omega)
  rw [Nat.mul_add, Nat.mul_one] at h2
  omega

theorem zval_ge {l : List Nat} (h : ZN l) (hl : l ≠ []) : 10000 ^ (l.length - 1) ≤ zval l := by
  have hpos : 0 < l.length := by cases l with | nil => exact absurd rfl hl | cons x r => simp
  have hx := h.resolve_left hl
  rw [zval_split l (l.length - 1) (by omega)]
  have h1 : 1 ≤ l.getD (l.length - 1) 0 + 10000 * zval (l.drop (l.length - 1 + 1)) := by omega
  have h2 := Nat.mul_le_mul_left (10000 ^ (l.length - 1)) h1
  rw [Nat.mul_one] at h2
  omega

theorem zval_lt_len {a b : List Nat} (hd : ZD a) (hn : ZN b) (h : a.length < b.length) : zval a < zval b := by
  have h1 := zval_lt hd
  have hb : b ≠ [] := by intro e; subst e; simp at h
  have h2 := zval_ge hn hb
  have h3 : 10000 ^ a.length ≤ 10000 ^ (b.length - 1) := Nat.pow_le_pow_right (by decide) (by omega)
  omega

theorem zval_zero {l : List Nat} (hn : ZN l) : zval l = 0 ↔ l = [] := by
  constructor
  · intro h
    apply Decidable.byContradiction
    intro hl
    have h2 := zval_ge hn hl
    have h3 : 0 < 10000 ^ (l.length - 1) := Nat.pow_pos (by decide)
    omega
  · rintro rfl; rfl

end Go.Proofs.YtfjbhiihfibbaaaDoor

/-
  The reference's numbers: dadd.
-/
namespace Go.Proofs.YtfjbhiihfibbaaaDoor
open Go.RowKit

theorem int_info : (Tryd.prog.info? 3).map (fun i => (i.zero, i.size, i.bytes)) = some (some (.int .i64 0), 1, 8) := by kernel_rfl

/-- Digits as cells. -/
def inC (l : List Nat) : List Value := l.map fun x : Nat => Value.int .i64 (x : Int)
theorem inC_snoc (l : List Nat) (x : Nat) : inC (l ++ [x]) = inC l ++ [.int .i64 (x : Int)] := by simp [inC]

theorem iseg_of_own {w : World} {base n : Nat} {v : Value} {l : List Nat} (h : w.ownsRow base 3 1 v n (inC l)) : ∃ (a : Option Addr) (c : Nat), v = .slice a n c ∧ n ≤ c ∧ c ≤ maxLen ∧ l.length = n ∧ ISeg w a l := by
  have hl : l.length = n := by have := h.1; simpa [inC] using this
  rcases h.2 with ⟨rfl, rfl⟩ | ⟨g, cap, cur, rfl, _, hg, hnc, hcm, _, htk⟩
  · exact ⟨none, 0, rfl, Nat.le_refl _, Nat.zero_le _, hl, Or.inl ⟨rfl, List.eq_nil_of_length_eq_zero hl⟩⟩
  · refine ⟨some ⟨g, 0, none⟩, cap, rfl, hnc, hcm, hl, Or.inr ⟨g, 0, rfl, ⟨cur, (0, 0), hg⟩, fun t ht => ?_⟩⟩
    rw [cell_of_row w g (0 + t) cur _ (0, 0) hg, Nat.zero_add]
    have h1 : (inC l)[t]? = cur.toList[t]? := by
      rw [← htk, List.getElem?_take, if_pos (by omega)]
    rw [← Array.getElem?_toList, ← h1]
    simp only [inC, List.getElem?_map, List.getD_eq_getElem?_getD]
    rw [List.getElem?_eq_getElem ht]
    rfl

theorem new_int (w : World) (x : Int) (e : TypeId) : ∀ j u, ([Value.int .i64 x] : List Value)[j]? = some u → (w.alloc (.cells #[.int .i64 x] e)).cell? ((⟨w.heap.size, 0, none⟩ : Addr).add j) = some u := by
  intro j u hu
  cases j with
  | zero =>
    simp only [List.getElem?_cons_zero, Option.some.injEq] at hu
    rw [← hu]
    have hadd : (⟨w.heap.size, 0, none⟩ : Addr).add 0 = ⟨w.heap.size, 0, none⟩ := by unfold Addr.add; split <;> simp_all
    rw [hadd, World.cell?_alloc_new]
    rfl
  | succ k => simp at hu

theorem one_int (x : Int) : ∀ u ∈ ([Value.int .i64 x] : List Value), u.oneCell' = true := by
  intro u hu
  simp only [List.mem_singleton] at hu
  subst hu
  rfl

/-- What an append onto a row of the call's own leaves as it was. -/
theorem ext_grown {w a b : World} {row : Option Nat} (h : Ext w a) (hg : a.grownBy b row) (hr : ∀ k, row = some k → w.heap.size ≤ k) : Ext w b := Below.grown h hg h.size hr

theorem zval_step {l la lb : List Nat} {k c x y : Nat} (hl : l.length = k) (hx : zval (la.take (k + 1)) = zval (la.take k) + 10000 ^ k * x) (hy : zval (lb.take (k + 1)) = zval (lb.take k) + 10000 ^ k * y) (h : zval l + 10000 ^ k * c = zval (la.take k) + zval (lb.take k)) :
    zval (l ++ [(c + x + y) % 10000]) + 10000 ^ (k + 1) * ((c + x + y) / 10000) = zval (la.take (k + 1)) + zval (lb.take (k + 1)) := by
  rw [zval_snoc, hl, hx, hy, Nat.pow_succ]
  have e := Nat.div_add_mod (c + x + y) 10000
  have e2 : 10000 ^ k * ((c + x + y) % 10000) + 10000 ^ k * 10000 * ((c + x + y) / 10000) = 10000 ^ k * (c + x + y) := by
    rw [Nat.mul_assoc, ← Nat.mul_add]
    congr 1
    omega
  rw [Nat.mul_add, Nat.mul_add] at e2
  omega

theorem zval_take_in {l : List Nat} {k : Nat} (h : k < l.length) : zval (l.take (k + 1)) = zval (l.take k) + 10000 ^ k * l.getD k 0 := by
  have hl : (l.take k).length = k := by rw [List.length_take]; omega
  rw [take_zsucc l k h, zval_snoc, hl]
theorem zval_take_out {l : List Nat} {k : Nat} (h : ¬ k < l.length) : zval (l.take (k + 1)) = zval (l.take k) + 10000 ^ k * 0 := by
  rw [List.take_of_length_le (by omega), List.take_of_length_le (by omega), Nat.mul_zero, Nat.add_zero]

end Go.Proofs.YtfjbhiihfibbaaaDoor
