/-
  Sign, Of, Small, Neg.
-/
import Derived.Test.YtdiojbgbeeojkaaGreatDoorMIntA
import Derived.Deep.RegionHeld3
import Derived.Test.YtdiojbgbeeojkaaGreatDoorMMulK

namespace Go.Proofs.YtdiojbgbeeojkaaGreatDoor
open Go.RowKit

set_option maxHeartbeats 400000 in
theorem Of_any (n : Int) (h1 : -9223372036854775808 ≤ n) (h2 : n ≤ 9223372036854775807) (w : World) :
    Calls Tryz.prog 35 #[.int .i64 n] w fun e w' => e = .returned (.agg #[.int .i64 n, .slice none 0 0]) ∧ IsInt w' n none 0 0 n ∧ Ext w w' := by
  go_enter Tryz.func35, Tryz.ntmps35
  go_wp2
  exact bodyPost_ret (v := .agg #[.int .i64 n, .slice none 0 0]) (by simp [results, Tryz.results35, go_sem]) rfl ⟨rfl, IsInt.small _ _ h1 h2, Ext.alloc _ _⟩

set_option maxHeartbeats 400000 in
theorem Sign_any (sm : Int) (lv : Value) (w : World) :
    Calls Tryz.prog 41 #[.agg #[.int .i64 sm, lv]] w fun e w' => e = .returned (.int .i64 (cmp3 sm 0)) ∧ Ext w w' := by
  go_enter Tryz.func41, Tryz.ntmps41
  go_wp2_with fail
  refine (compareInt_any _ _ _).mono ?_
  rintro e w1 ⟨rfl, rfl⟩
  go_wp2_with fail
  go_ret
  exact ⟨rfl, Ext.alloc _ _⟩

theorem IsInt.cmp3 {w : World} {sm : Int} {ao : Option Addr} {n c : Nat} {z : Int} (h : IsInt w sm ao n c z) : Go.Proofs.YtdiojbgbeeojkaaGreatDoor.cmp3 sm 0 = Go.Proofs.YtdiojbgbeeojkaaGreatDoor.cmp3 z 0 := by
  obtain ⟨h1, h2, _⟩ := h.sign
  unfold Go.Proofs.YtdiojbgbeeojkaaGreatDoor.cmp3
  by_cases a : sm < 0
  · rw [if_pos a, if_pos (h1.1 a)]
  · rw [if_neg a, if_neg (fun k => a (h1.2 k))]
    by_cases b : sm = 0
    · have c := h2.1 b
      rw [b, c]
    · rw [if_pos (by omega), if_pos (by have : z ≠ 0 := fun k => b (h2.2 k); have : ¬ z < 0 := fun k => a (h1.2 k); omega)]

/-- What is behind a call that is handed a world later than w. -/
theorem negative_from {w : World} (sm : Int) (lv : Value) : ∀ wx : World, Ext w wx → Calls Tryz.prog 43 #[.agg #[.int .i64 sm, lv]] wx fun e w' => e = .returned (.bool (decide (sm < 0))) ∧ Ext w w' ∧ Ext wx w' :=
  fun wx hx => (negative_any sm lv wx).mono fun _ _ h => ⟨h.1, hx.trans h.2, h.2⟩

theorem words_from {w : World} {sm : Int} {ao : Option Addr} {n c : Nat} {z : Int} (h : IsInt w sm ao n c z) : ∀ wx : World, Ext w wx → Calls Tryz.prog 71 #[.agg #[.int .i64 sm, .slice ao n c]] wx fun e w' =>
    ∃ (a' : Option Addr) (l' : List Nat) (n' c' : Nat), e = .returned (.slice a' n' c') ∧ l'.length = n' ∧ n' ≤ c' ∧ c' ≤ maxLen ∧ Seg w' a' l' ∧ Dig l' ∧ Nrm l' ∧ Hid (val l' = z.natAbs) ∧ Ext w w' ∧ Ext wx w' :=
  fun wx hx => (words_any sm ao n c z wx (h.ext hx)).mono fun _ _ ⟨v, h1, h2, h3⟩ => by
    obtain ⟨ao', l', c', rfl, h5, h6, h7, h8, h9, h10⟩ := h2
    exact ⟨ao', l', l'.length, c', h1, rfl, h5, h6, h7, h8, h9, h10, hx.trans h3, h3⟩

theorem keep2 {W w' : World} {B : Nat} {x y : Value} (h : Ext W w') (hB : B < W.heap.size) (c0 : W.cell? ⟨B, 0, none⟩ = some x) (c1 : W.cell? ⟨B, 1, none⟩ = some y) : w'.cell? ⟨B, 0, none⟩ = some x ∧ w'.cell? ⟨B, 1, none⟩ = some y :=
  ⟨(h.cell (p := ⟨B, 0, none⟩) hB).trans c0, (h.cell (p := ⟨B, 1, none⟩) hB).trans c1⟩

/-- A number stays what it is while a result's two cells are written. -/
theorem IsInt.setRes {w : World} {g : Nat} {sm : Int} {ao : Option Addr} {n c : Nat} {z x : Int} {p : Option Addr} {q r : Nat} {T : TypeId} (h : IsInt w sm ao n c z) (hg : w.heap[g]? = some (.cells #[.int .i64 x, .slice p q r] T (0, 0))) (u v : Value) :
    IsInt ((w.setCell ⟨g, 0, none⟩ u).setCell ⟨g, 1, none⟩ v) sm ao n c z := by
  rcases h with h | ⟨b, o, l, rfl, hl, hc, hm, hs, hd, hn, hz⟩
  · exact Or.inl h
  · have hO : Only g w ((w.setCell ⟨g, 0, none⟩ u).setCell ⟨g, 1, none⟩ v) := ((Only.refl _ _).setCell _ _).setCell _ _
    refine Or.inr ⟨b, o, l, rfl, hl, hc, hm, hs.only hO ?_, hd, hn, hz⟩
    intro a ha hab
    simp only [Option.some.injEq] at ha
    subst ha
    simp only at hab
    subst hab
    have hl0 : 0 < l.length := by
      apply Nat.pos_of_ne_zero
      intro h0
      have : l = [] := List.eq_nil_of_length_eq_zero h0
      subst this
      rcases hz with ⟨_, _, h⟩ | ⟨_, _, h⟩ <;> simp [val] at h
    rcases hs with ⟨h, _⟩ | ⟨b', o', h, _, hcell⟩
    · cases h
    · simp only [Option.some.injEq, Addr.mk.injEq, and_true] at h
      obtain ⟨rfl, rfl⟩ := h
      have hc0 := hcell 0 hl0
      rw [cell_of_row w b (o + 0) _ T (0, 0) hg] at hc0
      match o, hc0 with
      | 0, hc0 => simp at hc0
      | 1, hc0 => simp at hc0
      | k + 2, hc0 => simp at hc0

theorem fromWords_from {w : World} (neg : Bool) : ∀ (wx : World) (a : Option Addr) (l : List Nat) (n c : Nat), Ext w wx → l.length = n → Seg wx a l → Dig l → n ≤ c → c ≤ maxLen → Calls Tryz.prog 62 #[.bool neg, .slice a n c] wx fun e w' =>
    ∃ (sm : Int) (a' : Option Addr) (n' c' : Nat), e = .returned (.agg #[.int .i64 sm, .slice a' n' c']) ∧ IsInt w' sm a' n' c' (sgn neg (val l)) ∧ Ext w w' ∧ Ext wx w' :=
  fun wx a l n c hx h1 h2 h3 h4 h5 => (fromWords_any neg a l n c wx h1 h2 h3 h4 h5).mono fun _ _ ⟨sm, a', n', c', k1, k2, k3⟩ => ⟨sm, a', n', c', k1, k2, hx.trans k3, k3⟩

theorem Ext.setRes {w W : World} {g : Nat} (h : Ext w W) (hg : w.heap.size ≤ g) (u v : Value) : Ext w ((W.setCell ⟨g, 0, none⟩ u).setCell ⟨g, 1, none⟩ v) := (Below.setCell h (p := ⟨g, 0, none⟩) hg u).setCell (p := ⟨g, 1, none⟩) hg v

/-- What is known of the cells of a result that a call has made room for. -/
structure Res (W : World) (g : Nat) : Prop where
  lt : g < W.heap.size
  row : W.heap[g]? = some (.cells #[.int .i64 0, .slice none 0 0] 24 (0, 0))

theorem Res.ext {W W' : World} {g : Nat} (h : Res W g) (k : Ext W W') : Res W' g := ⟨Nat.lt_of_lt_of_le h.lt k.size, (k.block _ h.lt).trans h.row⟩
theorem Res.c0 {W : World} {g : Nat} (h : Res W g) : W.cell? ⟨g, 0, none⟩ = some (.int .i64 0) := by rw [cell_of_row W g 0 _ _ (0, 0) h.row]; rfl
theorem Res.c1 {W : World} {g : Nat} (h : Res W g) : W.cell? ⟨g, 1, none⟩ = some (.slice none 0 0) := by rw [cell_of_row W g 1 _ _ (0, 0) h.row]; rfl
theorem Res.f0 {W : World} {g : Nat} (h : Res W g) : W.frozen? ⟨g, 0, none⟩ = false := frozen_of_row W g 0 _ _ h.row
theorem Res.f1 {W : World} {g : Nat} (h : Res W g) : W.frozen? ⟨g, 1, none⟩ = false := frozen_of_row W g 1 _ _ h.row

/-- The world behind the boxing of one number and the room for a result. -/
structure Boxes1 (w W : World) (x y : Value) : Prop where
  ext : Ext w W
  size : W.heap.size = w.heap.size + 2
  c0 : W.cell? ⟨w.heap.size, 0, none⟩ = some x
  c1 : W.cell? ⟨w.heap.size, 1, none⟩ = some y
  res : Res W (w.heap.size + 1)

theorem boxes1 (w : World) (x y : Value) : Boxes1 w ((w.alloc (.cells #[x, y] 24)).alloc (.cells #[.int .i64 0, .slice none 0 0] 24)) x y := by
  refine ⟨(Ext.alloc _ _).then _, by simp, by simp, by simp, ⟨by simp, ?_⟩⟩
  have := heap_alloc_new (w.alloc (.cells #[x, y] 24)) (.cells #[.int .i64 0, .slice none 0 0] 24)
  simpa using this

/-- The world behind the boxing of two numbers and the room for a result. -/
structure Boxes2 (w W : World) (x1 y1 x2 y2 : Value) : Prop where
  ext : Ext w W
  size : W.heap.size = w.heap.size + 3
  c0 : W.cell? ⟨w.heap.size, 0, none⟩ = some x1
  c1 : W.cell? ⟨w.heap.size, 1, none⟩ = some y1
  d0 : W.cell? ⟨w.heap.size + 1, 0, none⟩ = some x2
  d1 : W.cell? ⟨w.heap.size + 1, 1, none⟩ = some y2
  res : Res W (w.heap.size + 1 + 1)

theorem boxes2 (w : World) (x1 y1 x2 y2 : Value) : Boxes2 w (((w.alloc (.cells #[x1, y1] 24)).alloc (.cells #[x2, y2] 24)).alloc (.cells #[.int .i64 0, .slice none 0 0] 24)) x1 y1 x2 y2 := by
  have hc : ∀ p : Addr, p.block < ((w.alloc (.cells #[x1, y1] 24)).alloc (.cells #[x2, y2] 24)).heap.size → (((w.alloc (.cells #[x1, y1] 24)).alloc (.cells #[x2, y2] 24)).alloc (.cells #[.int .i64 0, .slice none 0 0] 24)).cell? p = ((w.alloc (.cells #[x1, y1] 24)).alloc (.cells #[x2, y2] 24)).cell? p := fun p hp => (Ext.alloc _ _).cell hp
  refine ⟨((Ext.alloc _ _).then _).then _, by simp, (hc _ (by simp; omega)).trans (by simp), (hc _ (by simp; omega)).trans (by simp), (hc _ (by simp)).trans (by simp), (hc _ (by simp)).trans (by simp), ⟨by simp, ?_⟩⟩
  have := heap_alloc_new ((w.alloc (.cells #[x1, y1] 24)).alloc (.cells #[x2, y2] 24)) (.cells #[.int .i64 0, .slice none 0 0] 24)
  simpa using this

theorem keep4 {W w' : World} {B : Nat} {x y x2 y2 : Value} (h : Ext W w') (hB : B + 1 < W.heap.size) (c0 : W.cell? ⟨B, 0, none⟩ = some x) (c1 : W.cell? ⟨B, 1, none⟩ = some y) (d0 : W.cell? ⟨B + 1, 0, none⟩ = some x2) (d1 : W.cell? ⟨B + 1, 1, none⟩ = some y2) :
    w'.cell? ⟨B, 0, none⟩ = some x ∧ w'.cell? ⟨B, 1, none⟩ = some y ∧ w'.cell? ⟨B + 1, 0, none⟩ = some x2 ∧ w'.cell? ⟨B + 1, 1, none⟩ = some y2 :=
  ⟨(h.cell (p := ⟨B, 0, none⟩) (show B < _ by omega)).trans c0, (h.cell (p := ⟨B, 1, none⟩) (show B < _ by omega)).trans c1, (h.cell (p := ⟨B + 1, 0, none⟩) hB).trans d0, (h.cell (p := ⟨B + 1, 1, none⟩) hB).trans d1⟩

set_option maxHeartbeats 800000 in
set_option maxRecDepth 100000 in
theorem Neg_any (sm : Int) (ao : Option Addr) (n c : Nat) (z : Int) (w : World) (h : IsInt w sm ao n c z) :
    Calls Tryz.prog 52 #[.agg #[.int .i64 sm, .slice ao n c]] w fun e w' => ∃ (s' : Int) (a' : Option Addr) (n' c' : Nat), e = .returned (.agg #[.int .i64 s', .slice a' n' c']) ∧ IsInt w' s' a' n' c' (-z) ∧ Ext w w' := by
  have q1 := eql_nil ao n c 0 0
  by_cases hsm : ao = none ∧ sm ≠ -9223372036854775808
  · rcases h with ⟨rfl, rfl, rfl, rfl, h1, h2⟩ | ⟨b, o, l, rfl, _⟩
    · have hb : (sm != -9223372036854775808) = true := by rw [bne_iff_ne]; exact hsm.2
      have hr : -9223372036854775807 ≤ sm := by omega
      go_enter Tryz.func52, Tryz.ntmps52
      go_wp2
      exact bodyPost_ret (v := .agg #[.int .i64 (-sm), .slice none 0 0]) (by simp [results, Tryz.results52, go_sem]) rfl ⟨-sm, none, 0, 0, rfl, IsInt.small _ _ (by omega) (by omega), (Ext.alloc _ _).then _⟩
    · exact absurd hsm.1 (by simp)
  · have hI := h
    have Hsg := hid h.sign
    have hcase : ao.isNone = false ∨ (ao = none ∧ (sm != -9223372036854775808) = false) := by
      rcases ao with _ | a
      · right; refine ⟨rfl, ?_⟩; simp at hsm; simp [hsm]
      · left; rfl
    clear hsm
    rcases hcase with hno | ⟨rfl, hno⟩
    all_goals
      go_enter Tryz.func52, Tryz.ntmps52
      go_wp2_with fail
    · have hbx := boxes1 w (.int .i64 sm) (.slice ao n c)
      generalize (w.alloc (.cells #[.int .i64 sm, .slice ao n c] 24)).alloc (.cells #[.int .i64 0, .slice none 0 0] 24) = W0 at *
      have hI0 := hI.ext hbx.ext
      have Hn := hid (negative_from (w := W0) sm (.slice ao n c)); have Hw := hid (words_from hI0); have Hf := hid (fromWords_from (w := W0) (!decide (sm < 0)))
      have hE0d : Ext W0 W0.drew := Below.drew (Ext.refl _)
      have hB : w.heap.size < W0.heap.size := by have := hbx.size; omega
      have c0 := hbx.c0; have c1 := hbx.c1
      go_region_held3 (fun w' => w'.cell? ⟨w.heap.size, 0, none⟩ = some (.int .i64 sm) ∧ w'.cell? ⟨w.heap.size, 1, none⟩ = some (.slice ao n c)) (first | exact keep2 (by assumption) hB c0 c1 | go_keep) (first | (go_at_call 43; refine (Hn.out _ (by assumption)).mono ?_; rintro e w1 ⟨rfl, he1, hx1⟩) | (go_at_call 71; refine (Hw.out _ (by assumption)).mono ?_; rintro e w2 ⟨a2, l2, n2, c2, rfl, hl2, hn2, hc2, hs2, hd2, hm2, Hv2, he2, hx2⟩; have Hl2 := hid hl2; clear hl2) | (go_at_call 62; refine (Hf.out _ a2 l2 n2 c2 he2 Hl2.out hs2 hd2 hn2 hc2).mono ?_; rintro e w3 ⟨s3, a3, n3, c3, rfl, hI3, he3, hx3⟩; have hr3 := hbx.res.ext he3; have k0 := hr3.c0; have k1 := hr3.c1; have g0 := hr3.f0; have g1 := hr3.f1))
      go_wp2_with fail
      have hv3 : sgn (!decide (sm < 0)) (val l2) = -z := by
        rw [Hv2.out]
        have h5 := Hsg.out.1
        by_cases h6 : sm < 0
        · have := h5.1 h6; simp [sgn, h6]; omega
        · have : ¬ z < 0 := fun k => h6 (h5.2 k)
          simp [sgn, h6]; omega
      exact bodyPost_ret (v := .agg #[.int .i64 s3, .slice a3 n3 c3]) (by simp [results, Tryz.results52, go_sem, k0, k1]) rfl ⟨s3, a3, n3, c3, rfl, (hI3.cast hv3).setRes hr3.row _ _, (hbx.ext.trans he3).setRes (Nat.le_succ _) _ _⟩
    · have hbx := boxes1 w (.int .i64 sm) (.slice none n c)
      generalize (w.alloc (.cells #[.int .i64 sm, .slice none n c] 24)).alloc (.cells #[.int .i64 0, .slice none 0 0] 24) = W0 at *
      have hI0 := hI.ext hbx.ext
      have Hn := hid (negative_from (w := W0) sm (.slice none n c)); have Hw := hid (words_from hI0); have Hf := hid (fromWords_from (w := W0) (!decide (sm < 0)))
      have hE0d : Ext W0 W0.drew := Below.drew (Ext.refl _)
      have hB : w.heap.size < W0.heap.size := by have := hbx.size; omega
      have c0 := hbx.c0; have c1 := hbx.c1
      go_region_held3 (fun w' => w'.cell? ⟨w.heap.size, 0, none⟩ = some (.int .i64 sm) ∧ w'.cell? ⟨w.heap.size, 1, none⟩ = some (.slice none n c)) (first | exact keep2 (by assumption) hB c0 c1 | go_keep) (first | (go_at_call 43; refine (Hn.out _ (by assumption)).mono ?_; rintro e w1 ⟨rfl, he1, hx1⟩) | (go_at_call 71; refine (Hw.out _ (by assumption)).mono ?_; rintro e w2 ⟨a2, l2, n2, c2, rfl, hl2, hn2, hc2, hs2, hd2, hm2, Hv2, he2, hx2⟩; have Hl2 := hid hl2; clear hl2) | (go_at_call 62; refine (Hf.out _ a2 l2 n2 c2 he2 Hl2.out hs2 hd2 hn2 hc2).mono ?_; rintro e w3 ⟨s3, a3, n3, c3, rfl, hI3, he3, hx3⟩; have hr3 := hbx.res.ext he3; have k0 := hr3.c0; have k1 := hr3.c1; have g0 := hr3.f0; have g1 := hr3.f1))
      go_wp2_with fail
      have hv3 : sgn (!decide (sm < 0)) (val l2) = -z := by
        rw [Hv2.out]
        have h5 := Hsg.out.1
        by_cases h6 : sm < 0
        · have := h5.1 h6; simp [sgn, h6]; omega
        · have : ¬ z < 0 := fun k => h6 (h5.2 k)
          simp [sgn, h6]; omega
      exact bodyPost_ret (v := .agg #[.int .i64 s3, .slice a3 n3 c3]) (by simp [results, Tryz.results52, go_sem, k0, k1]) rfl ⟨s3, a3, n3, c3, rfl, (hI3.cast hv3).setRes hr3.row _ _, (hbx.ext.trans he3).setRes (Nat.le_succ _) _ _⟩

end Go.Proofs.YtdiojbgbeeojkaaGreatDoor

/-
  Sums and differences of numbers.
-/
namespace Go.Proofs.YtdiojbgbeeojkaaGreatDoor
open Go.RowKit

theorem Fit.len {k : Nat} {z : Int} {l : List Nat} (hf : Fit k z) (hm : Nrm l) (hv : val l = z.natAbs) : l.length ≤ k := lt_len hm (by rw [hv]; exact hf)

theorem addWords_from {w : World} : ∀ (wx : World) (a1 a2 : Option Addr) (l1 l2 : List Nat) (n1 n2 c1 c2 : Nat), Ext w wx → l1.length = n1 → l2.length = n2 → Seg wx a1 l1 → Seg wx a2 l2 → Dig l1 → Dig l2 → n1 ≤ c1 → n2 ≤ c2 → n1 ≤ 1073741824 → n2 ≤ 1073741824 →
    Calls Tryz.prog 102 #[.slice a1 n1 c1, .slice a2 n2 c2] wx fun e w' => ∃ (a' : Option Addr) (l' : List Nat) (n' c' : Nat), e = .returned (.slice a' n' c') ∧ l'.length = n' ∧ n' ≤ c' ∧ c' ≤ maxLen ∧ Seg w' a' l' ∧ Dig l' ∧ Nrm l' ∧ Hid (val l' = val l1 + val l2) ∧ Ext w w' ∧ Ext wx w' :=
  fun wx a1 a2 l1 l2 n1 n2 c1 c2 hx h1 h2 h3 h4 h5 h6 h7 h8 h9 h10 => (addWords_any a1 a2 l1 l2 n1 n2 c1 c2 wx h1 h2 h3 h4 h5 h6 h7 h8 h9 h10).mono fun _ _ ⟨v, k1, k2, k3⟩ => by
    obtain ⟨ao', l', n', c', rfl, e1, e2, e3, e4, e5, e6, e7⟩ := k2.named
    exact ⟨ao', l', n', c', k1, e1, e2, e3, e4, e5, e6, e7, hx.trans k3, k3⟩

theorem subWords_from {w : World} : ∀ (wx : World) (a1 a2 : Option Addr) (l1 l2 : List Nat) (n1 n2 c1 c2 : Nat), Ext w wx → l1.length = n1 → l2.length = n2 → Seg wx a1 l1 → Seg wx a2 l2 → Dig l1 → Dig l2 → n1 ≤ c1 → n2 ≤ c2 → n1 ≤ 1073741824 → n2 ≤ n1 → val l2 ≤ val l1 →
    Calls Tryz.prog 103 #[.slice a1 n1 c1, .slice a2 n2 c2] wx fun e w' => ∃ (a' : Option Addr) (l' : List Nat) (n' c' : Nat), e = .returned (.slice a' n' c') ∧ l'.length = n' ∧ n' ≤ c' ∧ c' ≤ maxLen ∧ Seg w' a' l' ∧ Dig l' ∧ Nrm l' ∧ Hid (val l' = val l1 - val l2) ∧ Ext w w' ∧ Ext wx w' :=
  fun wx a1 a2 l1 l2 n1 n2 c1 c2 hx h1 h2 h3 h4 h5 h6 h7 h8 h9 h10 h11 => (subWords_any a1 a2 l1 l2 n1 n2 c1 c2 wx h1 h2 h3 h4 h5 h6 h7 h8 h9 h10 h11).mono fun _ _ ⟨v, k1, k2, k3⟩ => by
    obtain ⟨ao', l', n', c', rfl, e1, e2, e3, e4, e5, e6, e7⟩ := k2.named
    exact ⟨ao', l', n', c', k1, e1, e2, e3, e4, e5, e6, e7, hx.trans k3, k3⟩

theorem keep4' {w W w' : World} {x y x2 y2 : Value} (h : Ext W w') (hb : Boxes2 w W x y x2 y2) : w'.cell? ⟨w.heap.size, 0, none⟩ = some x ∧ w'.cell? ⟨w.heap.size, 1, none⟩ = some y ∧ w'.cell? ⟨w.heap.size + 1, 0, none⟩ = some x2 ∧ w'.cell? ⟨w.heap.size + 1, 1, none⟩ = some y2 :=
  keep4 h (by have := hb.size; omega) hb.c0 hb.c1 hb.d0 hb.d1

theorem keep4s {w W w' : World} {x y x2 y2 : Value} (h : Ext W w') (hb : Boxes2 w W x y x2 y2) (u v : Value) : ((w'.setCell ⟨w.heap.size + 1 + 1, 0, none⟩ u).setCell ⟨w.heap.size + 1 + 1, 1, none⟩ v).cell? ⟨w.heap.size, 0, none⟩ = some x ∧ ((w'.setCell ⟨w.heap.size + 1 + 1, 0, none⟩ u).setCell ⟨w.heap.size + 1 + 1, 1, none⟩ v).cell? ⟨w.heap.size, 1, none⟩ = some y ∧ ((w'.setCell ⟨w.heap.size + 1 + 1, 0, none⟩ u).setCell ⟨w.heap.size + 1 + 1, 1, none⟩ v).cell? ⟨w.heap.size + 1, 0, none⟩ = some x2 ∧ ((w'.setCell ⟨w.heap.size + 1 + 1, 0, none⟩ u).setCell ⟨w.heap.size + 1 + 1, 1, none⟩ v).cell? ⟨w.heap.size + 1, 1, none⟩ = some y2 := by
  have hO : Only (w.heap.size + 1 + 1) w' ((w'.setCell ⟨w.heap.size + 1 + 1, 0, none⟩ u).setCell ⟨w.heap.size + 1 + 1, 1, none⟩ v) := ((Only.refl _ _).setCell _ _).setCell _ _
  obtain ⟨k0, k1, k2, k3⟩ := keep4' h hb
  exact ⟨(World.cell?_of_block (a := ⟨w.heap.size, 0, none⟩) (hO.block _ (by simp only; omega))).trans k0, (World.cell?_of_block (a := ⟨w.heap.size, 1, none⟩) (hO.block _ (by simp only; omega))).trans k1, (World.cell?_of_block (a := ⟨w.heap.size + 1, 0, none⟩) (hO.block _ (by simp only; omega))).trans k2, (World.cell?_of_block (a := ⟨w.heap.size + 1, 1, none⟩) (hO.block _ (by simp only; omega))).trans k3⟩

set_option maxHeartbeats 1000000 in
set_option maxRecDepth 100000 in
theorem addLong_any (s1 s2 : Int) (a1 a2 : Option Addr) (n1 c1 n2 c2 : Nat) (z1 z2 : Int) (w : World) (h1 : IsInt w s1 a1 n1 c1 z1) (h2 : IsInt w s2 a2 n2 c2 z2) (K : Nat) (hK : K ≤ 4194304) (hf1 : Fit K z1) (hf2 : Fit K z2) :
    Calls Tryz.prog 82 #[.agg #[.int .i64 s1, .slice a1 n1 c1], .agg #[.int .i64 s2, .slice a2 n2 c2]] w fun e w' => ∃ (s' : Int) (a' : Option Addr) (n' c' : Nat), e = .returned (.agg #[.int .i64 s', .slice a' n' c']) ∧ IsInt w' s' a' n' c' (z1 + z2) ∧ Ext w w' := by
  have hs1 := hid h1.sign; have hs2 := hid h2.sign
  go_enter Tryz.func82, Tryz.ntmps82
  go_wp2_with fail
  have hbx := boxes2 w (.int .i64 s1) (.slice a1 n1 c1) (.int .i64 s2) (.slice a2 n2 c2)
  generalize ((w.alloc (.cells #[.int .i64 s1, .slice a1 n1 c1] 24)).alloc (.cells #[.int .i64 s2, .slice a2 n2 c2] 24)).alloc (.cells #[.int .i64 0, .slice none 0 0] 24) = W0 at *
  have Hw1 := hid (words_from (h1.ext hbx.ext)); have Hw2 := hid (words_from (h2.ext hbx.ext))
  obtain ⟨b1, hb1⟩ : ∃ b, decide (s1 < 0) = b := ⟨_, rfl⟩
  obtain ⟨b2, hb2⟩ : ∃ b, decide (s2 < 0) = b := ⟨_, rfl⟩
  have hn1 := negative_from (w := W0) s1 (.slice a1 n1 c1); have hn2 := negative_from (w := W0) s2 (.slice a2 n2 c2)
  rw [hb1] at hn1; rw [hb2] at hn2
  have Hn1 := hid hn1; have Hn2 := hid hn2; have Hb1 := hid hb1; have Hb2 := hid hb2
  clear hn1 hn2 hb1 hb2
  have hE0d : Ext W0 W0.drew := Below.drew (Ext.refl _)
  have hB : w.heap.size + 1 < W0.heap.size := by have := hbx.size; omega
  have c0 := hbx.c0; have c1' := hbx.c1; have d0 := hbx.d0; have d1 := hbx.d1
  go_region_held3 (fun w' => w'.cell? ⟨w.heap.size, 0, none⟩ = some (.int .i64 s1) ∧ w'.cell? ⟨w.heap.size, 1, none⟩ = some (.slice a1 n1 c1) ∧ w'.cell? ⟨w.heap.size + 1, 0, none⟩ = some (.int .i64 s2) ∧ w'.cell? ⟨w.heap.size + 1, 1, none⟩ = some (.slice a2 n2 c2)) (first | exact keep4 (by assumption) hB c0 c1' d0 d1 | go_keep)
    (first | (go_at_call_of 71 s1; refine (Hw1.out _ (by assumption)).mono ?_; rintro e wa ⟨p1, l1, m1, e1, rfl, hl1, hm1, he1, hsg1, hd1, hr1, Hv1, hea, hxa⟩; have Hl1 := hid hl1; clear hl1) | (go_at_call_of 71 s2; refine (Hw2.out _ (by assumption)).mono ?_; rintro e wb ⟨p2, l2, m2, e2, rfl, hl2, hm2, he2, hsg2, hd2, hr2, Hv2, heb, hxb⟩; have Hl2 := hid hl2; clear hl2))
  have hsg1b := hsg1.ext hxb
  clear hsg1
  have hlen1 : m1 ≤ 4194304 := by rw [← Hl1.out]; exact Nat.le_trans (hf1.len hr1 Hv1.out) hK
  have hlen2 : m2 ≤ 4194304 := by rw [← Hl2.out]; exact Nat.le_trans (hf2.len hr2 Hv2.out) hK
  clear hf1 hf2 hK
  go_wp2_with fail
  have heb' : Ext W0 wb.drew := Below.drew heb
  have hsg1d : Seg wb.drew p1 l1 := hsg1b
  have hsg2d : Seg wb.drew p2 l2 := hsg2
  go_region_held3 (fun w' => w'.cell? ⟨w.heap.size, 0, none⟩ = some (.int .i64 s1) ∧ w'.cell? ⟨w.heap.size, 1, none⟩ = some (.slice a1 n1 c1) ∧ w'.cell? ⟨w.heap.size + 1, 0, none⟩ = some (.int .i64 s2) ∧ w'.cell? ⟨w.heap.size + 1, 1, none⟩ = some (.slice a2 n2 c2)) (first | exact keep4 (by assumption) hB c0 c1' d0 d1 | go_keep)
    (first | (go_at_call_of 43 s1; refine (Hn1.out _ (by assumption)).mono ?_; rintro e wc ⟨rfl, hec, hxc⟩) | (go_at_call_of 43 s2; refine (Hn2.out _ (by assumption)).mono ?_; rintro e wd ⟨rfl, hed, hxd⟩))
  have hsg1e := (hsg1d.ext hxc).ext hxd
  have hsg2e := (hsg2d.ext hxc).ext hxd
  have hkc := keep4 hed hB c0 c1' d0 d1
  obtain ⟨y0, y1, y2, y3⟩ := hkc
  clear hsg1b hsg2 hsg1d hsg2d hxa hxb hxc hxd heb' hea heb hec hE0d c0 c1' d0 d1
  have hres := hbx.res.ext hed
  have hsz1 : val l1 = z1.natAbs := Hv1.out
  have hsz2 : val l2 = z2.natAbs := Hv2.out
  have Hz1 : Hid (z1 = sgn b1 (val l1)) := by
    show _ = _
    have h5 := hs1.out.1; have h6 := Hb1.out
    rw [hsz1]
    cases b1
    · have : ¬ z1 < 0 := fun k => by have := h5.2 k; simp at h6; omega
      simp [sgn]; omega
    · have : z1 < 0 := h5.1 (by simpa using h6)
      simp [sgn]; omega
  have Hz2 : Hid (z2 = sgn b2 (val l2)) := by
    show _ = _
    have h5 := hs2.out.1; have h6 := Hb2.out
    rw [hsz2]
    cases b2
    · have : ¬ z2 < 0 := fun k => by have := h5.2 k; simp at h6; omega
      simp [sgn]; omega
    · have : z2 < 0 := h5.1 (by simpa using h6)
      simp [sgn]; omega
  clear hsz1 hsz2
  by_cases hbb : b1 = b2
  · subst hbb
    have hbt : (b1 == b1) = true := by simp
    rw [hbt]
    clear hbt
    go_wp2_with fail
    refine (Hn1.out _ hed).mono ?_
    rintro e we ⟨rfl, hee, hxe⟩
    go_wp2_with fail
    refine (addWords_from (w := W0) we p1 p2 l1 l2 m1 m2 e1 e2 hee Hl1.out Hl2.out (hsg1e.ext hxe) (hsg2e.ext hxe) hd1 hd2 hm1 hm2 (by omega) (by omega)).mono ?_
    rintro e wf ⟨p3, l3, m3, e3, rfl, hl3, hm3, he3, hsg3, hd3, hr3, Hv3, hef, hxf⟩
    have Hl3 := hid hl3
    clear hl3
    go_wp2_with fail
    refine (fromWords_from (w := W0) b1 wf p3 l3 m3 e3 hef Hl3.out hsg3 hd3 hm3 he3).mono ?_
    rintro e wg ⟨s4, a4, n4, c4, rfl, hI4, heg, hxg⟩
    have hr4 := hbx.res.ext heg
    have k0 := hr4.c0; have k1 := hr4.c1; have g0 := hr4.f0; have g1 := hr4.f1
    go_wp2_with fail
    have hv4 : sgn b1 (val l3) = z1 + z2 := by
      rw [Hv3.out, Hz1.out, Hz2.out]
      cases b1 <;> simp [sgn] <;> omega
    exact bodyPost_ret (v := .agg #[.int .i64 s4, .slice a4 n4 c4]) (by simp [results, Tryz.results82, go_sem, k0, k1]) rfl ⟨s4, a4, n4, c4, rfl, (hI4.cast hv4).setRes hr4.row _ _, (hbx.ext.trans heg).setRes (by omega) _ _⟩
  · have hb2e : b2 = !b1 := by cases b1 <;> cases b2 <;> simp_all
    subst hb2e
    clear hbb
    have hbt : (b1 == !b1) = false := by cases b1 <;> rfl
    rw [hbt]
    clear hbt
    obtain ⟨cv, hcv⟩ : ∃ cv, cmp3 (val l1) (val l2) = cv := ⟨_, rfl⟩
    have Hcv := hid hcv
    by_cases hlt : val l1 < val l2
    · have hneg : cv < 0 := by rw [← hcv, cmp3_lt (by omega)]; omega
      have hlen : m1 ≤ m2 := by rw [← Hl1.out, ← Hl2.out]; exact hr1.len_le hd2 (Nat.le_of_lt hlt)
      have Hlt := hid hlt
      clear hcv hlt
      go_wp2_with fail
      refine (compareWords_any p1 p2 l1 l2 m1 m2 e1 e2 wd Hl1.out Hl2.out hsg1e hsg2e hd1 hd2 hr1 hr2 hm1 hm2 (by omega) (by omega)).mono ?_
      rintro e we ⟨rfl, hxe⟩
      rw [Hcv.out]
      have hee := hed.trans hxe
      have hkc := keep4' hee hbx
      obtain ⟨x0, x1, x2, x3⟩ := hkc
      go_wp2_with fail
      refine (Hn2.out _ hee).mono ?_
      rintro e wf ⟨rfl, hef, hxf⟩
      go_wp2_with fail
      refine (subWords_from (w := W0) wf p2 p1 l2 l1 m2 m1 e2 e1 hef Hl2.out Hl1.out ((hsg2e.ext hxe).ext hxf) ((hsg1e.ext hxe).ext hxf) hd2 hd1 hm2 hm1 (by omega) hlen (Nat.le_of_lt Hlt.out)).mono ?_
      rintro e wg ⟨p3, l3, m3, e3, rfl, hl3, hm3, he3, hsg3, hd3, hr3, Hv3, heg, hxg⟩
      have Hl3 := hid hl3
      clear hl3
      go_wp2_with fail
      refine (fromWords_from (w := W0) (!b1) wg p3 l3 m3 e3 heg Hl3.out hsg3 hd3 hm3 he3).mono ?_
      rintro e wh ⟨s4, a4, n4, c4, rfl, hI4, heh, hxh⟩
      have hr4 := hbx.res.ext heh
      have k0 := hr4.c0; have k1 := hr4.c1; have g0 := hr4.f0; have g1 := hr4.f1
      go_wp2_with fail
      have hv4 : sgn (!b1) (val l3) = z1 + z2 := by
        have h7 := Hlt.out
        rw [Hv3.out, Hz1.out, Hz2.out]
        cases b1 <;> simp [sgn] <;> omega
      exact bodyPost_ret (v := .agg #[.int .i64 s4, .slice a4 n4 c4]) (by simp [results, Tryz.results82, go_sem, k0, k1]) rfl ⟨s4, a4, n4, c4, rfl, (hI4.cast hv4).setRes hr4.row _ _, (hbx.ext.trans heh).setRes (by omega) _ _⟩
    · have hneg : ¬ cv < 0 := by
        rw [← hcv]; unfold cmp3; rw [if_neg (by omega)]; split <;> omega
      have hlen : m2 ≤ m1 := by rw [← Hl1.out, ← Hl2.out]; exact hr2.len_le hd1 (Nat.le_of_not_lt hlt)
      have Hle : Hid (val l2 ≤ val l1) := Nat.le_of_not_lt hlt
      clear hcv hlt
      go_wp2_with fail
      refine (compareWords_any p1 p2 l1 l2 m1 m2 e1 e2 wd Hl1.out Hl2.out hsg1e hsg2e hd1 hd2 hr1 hr2 hm1 hm2 (by omega) (by omega)).mono ?_
      rintro e we ⟨rfl, hxe⟩
      rw [Hcv.out]
      have hee := hed.trans hxe
      have hkc := keep4' hee hbx
      obtain ⟨x0, x1, x2, x3⟩ := hkc
      go_wp2_with fail
      refine (Hn1.out _ hee).mono ?_
      rintro e wf ⟨rfl, hef, hxf⟩
      go_wp2_with fail
      refine (subWords_from (w := W0) wf p1 p2 l1 l2 m1 m2 e1 e2 hef Hl1.out Hl2.out ((hsg1e.ext hxe).ext hxf) ((hsg2e.ext hxe).ext hxf) hd1 hd2 hm1 hm2 (by omega) hlen Hle.out).mono ?_
      rintro e wg ⟨p3, l3, m3, e3, rfl, hl3, hm3, he3, hsg3, hd3, hr3, Hv3, heg, hxg⟩
      have Hl3 := hid hl3
      clear hl3
      go_wp2_with fail
      refine (fromWords_from (w := W0) b1 wg p3 l3 m3 e3 heg Hl3.out hsg3 hd3 hm3 he3).mono ?_
      rintro e wh ⟨s4, a4, n4, c4, rfl, hI4, heh, hxh⟩
      have hr4 := hbx.res.ext heh
      have k0 := hr4.c0; have k1 := hr4.c1; have g0 := hr4.f0; have g1 := hr4.f1
      go_wp2_with fail
      have hv4 : sgn b1 (val l3) = z1 + z2 := by
        have h7 := Hle.out
        rw [Hv3.out, Hz1.out, Hz2.out]
        cases b1 <;> simp [sgn] <;> omega
      exact bodyPost_ret (v := .agg #[.int .i64 s4, .slice a4 n4 c4]) (by simp [results, Tryz.results82, go_sem, k0, k1]) rfl ⟨s4, a4, n4, c4, rfl, (hI4.cast hv4).setRes hr4.row _ _, (hbx.ext.trans heh).setRes (by omega) _ _⟩

end Go.Proofs.YtdiojbgbeeojkaaGreatDoor
