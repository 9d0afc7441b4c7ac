/-
  Add and Sub. fromPair and Mul. Cmp. Twos: how often 2 divides a number. Texts of numbers, in plain lists: padded digits. Texts of numbers, read again, in plain lists. Reading numbers: Parse. And what results' cells do to words: nothing. divTowardsNought. Div: quotient and rest. withoutSign, halve, double.
-/
import Derived.Test.YtfjnlopbmkimiaaGreatDoorProg
import Derived.Test.YtfjnlopbmkimiaaGreatDoorRows
import Derived.BigQuiet
import Derived.Deep.Cut
import Derived.Deep.QuietTactic
import Derived.Deep.RegionHeld3
import Derived.Ground.Names2Prog
import Derived.Laws.Bits64b
import Derived.Laws.CopyOwn
import Derived.Laws.ResultCell
import Derived.Lib.BitFns
import Derived.Lib.ItoaNum
import Derived.Lib.Strings
import Derived.Lib.TrailingZeros
import Derived.Shelf.Bits.Mul64
import Derived.Shelf.LaysM
import Derived.Shelf.Slices.SearchI
import Derived.Shelf.Small.Bits
import Derived.Shelf.Small.Wraps
import Derived.Shelf.Spec.BitsCarry
import Derived.Shelf.Spec.TrailingZeros
import Derived.Shelf.Strconv.Itoa0
import Derived.Shelf.Strconv.Itoa1
import Derived.Shelf.Strconv.Itoa2
import Derived.Shelf.Strconv.Itoa3
import Derived.Shelf.Strings.Builder1
import Derived.Shelf.Strings.BuilderF
import Derived.Shelf.Strings.BuilderK
import Derived.WalkKit
import Derived.WalkLawsBesides
import Derived.WalkSpells
import Derived.Test.YtfjnlopbmkimiaaGreatDoorS00Mem
import Derived.Test.YtfjnlopbmkimiaaGreatDoorShelf
import Derived.Test.YtfjnlopbmkimiaaGreatDoorS02ShiftI
import Derived.Test.YtfjnlopbmkimiaaGreatDoorS03GuessD
import Derived.Test.YtfjnlopbmkimiaaGreatDoorS04IntB
import Derived.Test.YtfjnlopbmkimiaaGreatDoorS05IntD
namespace Go.Proofs.YtfjnlopbmkimiaaGreatDoor
open Go.RowKit

theorem short_yes (s1 s2 : Int) (n1 c1 n2 c2 : Nat) (w : World) :
    Calls Tryz.prog 122 #[.agg #[.int .i64 s1, .slice none n1 c1], .agg #[.int .i64 s2, .slice none n2 c2]] w fun e w' => e = .returned (.bool true) ∧ Ext w w' := short_any s1 s2 none none n1 c1 n2 c2 w
theorem short_no (s1 s2 : Int) (a1 a2 : Option Addr) (n1 c1 n2 c2 : Nat) (w : World) (h : ¬ (a1 = none ∧ a2 = none)) :
    Calls Tryz.prog 122 #[.agg #[.int .i64 s1, .slice a1 n1 c1], .agg #[.int .i64 s2, .slice a2 n2 c2]] w fun e w' => e = .returned (.bool false) ∧ Ext w w' := by
  have hb : (a1.isNone && a2.isNone) = false := by
    cases a1 <;> cases a2 <;> simp_all
  have := short_any s1 s2 a1 a2 n1 c1 n2 c2 w
  rw [hb] at this
  exact this

theorem IsInt.none {w : World} {sm : Int} {n c : Nat} {z : Int} (h : IsInt w sm Option.none n c z) : n = 0 ∧ c = 0 ∧ sm = z ∧ -9223372036854775808 ≤ z ∧ z ≤ 9223372036854775807 := by
  rcases h with ⟨_, h⟩ | ⟨b, o, l, h, _⟩
  · exact h
  · cases h

set_option maxHeartbeats 1000000 in
set_option maxRecDepth 100000 in
theorem Add_any (s1 s2 : Int) (a1 a2 : Option Addr) (n1 c1 n2 c2 : Nat) (z1 z2 : Int) (w : World) (h1 : IsInt w s1 a1 n1 c1 z1) (h2 : IsInt w s2 a2 n2 c2 z2) (K : Nat) (hK : K ≤ 4194304) (hf1 : Fit K z1) (hf2 : Fit K z2) :
    Calls Tryz.prog 125 #[.agg #[.int .i64 s1, .slice a1 n1 c1], .agg #[.int .i64 s2, .slice a2 n2 c2]] w fun e w' => ∃ (s' : Int) (a' : Option Addr) (n' c' : Nat), e = .returned (.agg #[.int .i64 s', .slice a' n' c']) ∧ IsInt w' s' a' n' c' (z1 + z2) ∧ Ext w w' := by
  have Hf1 := hid hf1; have Hf2 := hid hf2
  clear hf1 hf2
  by_cases hsh : a1 = none ∧ a2 = none
  · obtain ⟨rfl, rfl⟩ := hsh
    obtain ⟨rfl, rfl, rfl, r1, r2⟩ := h1.none
    obtain ⟨rfl, rfl, rfl, r3, r4⟩ := h2.none
    have h1k := hid h1; have h2k := hid h2
    clear h1 h2
    by_cases hov : -9223372036854775808 ≤ s1 + s2 ∧ s1 + s2 ≤ 9223372036854775807
    · obtain ⟨o1, o2⟩ := hov
      clear Hf1 Hf2 hK h1k h2k
      go_enter Tryz.func125, Tryz.ntmps125
      go_wp2_with fail
      have hbx := boxes2 w (.int .i64 s1) (.slice none 0 0) (.int .i64 s2) (.slice none 0 0)
      generalize ((w.alloc (.cells #[.int .i64 s1, .slice none 0 0] 74)).alloc (.cells #[.int .i64 s2, .slice none 0 0] 74)).alloc (.cells #[.int .i64 0, .slice none 0 0] 74) = W0 at *
      refine (short_yes _ _ _ _ _ _ _).mono ?_
      rintro e w1 ⟨rfl, he1⟩
      obtain ⟨x0, x1, x2, x3⟩ := keep4' he1 hbx
      have hr4 := hbx.res.ext he1
      have k0 := hr4.c0; have k1 := hr4.c1; have g0 := hr4.f0; have g1 := hr4.f1
      have ht : (decide (s1 < s1 + s2) == decide (0 < s2)) = true := by
        rw [beq_iff_eq, decide_eq_decide]; omega
      go_wp2_with fail
      exact bodyPost_ret (v := .agg #[.int .i64 (s1 + s2), .slice none 0 0]) (by simp [results, Tryz.results125, go_sem, k0, k1]) rfl ⟨s1 + s2, none, 0, 0, rfl, IsInt.small _ _ o1 o2, (hbx.ext.trans he1).setRes (by omega) _ _⟩
    · obtain ⟨t, ht0⟩ : ∃ t, wrap64 (s1 + s2) = t := ⟨_, rfl⟩
      have hts : t = s1 + s2 + 18446744073709551616 ∨ t = s1 + s2 - 18446744073709551616 := by
        rw [← ht0]; unfold wrap64; omega
      have htr : -9223372036854775808 ≤ t ∧ t ≤ 9223372036854775807 := by
        rw [← ht0]; unfold wrap64; omega
      have ht : (decide (s1 < t) == decide (0 < s2)) = false := by
        rw [beq_eq_false_iff_ne, ne_eq, decide_eq_decide]; omega
      obtain ⟨u1, u2⟩ := htr
      clear hov hts
      go_enter Tryz.func125, Tryz.ntmps125
      go_wp2_with fail
      have hbx := boxes2 w (.int .i64 s1) (.slice none 0 0) (.int .i64 s2) (.slice none 0 0)
      generalize ((w.alloc (.cells #[.int .i64 s1, .slice none 0 0] 74)).alloc (.cells #[.int .i64 s2, .slice none 0 0] 74)).alloc (.cells #[.int .i64 0, .slice none 0 0] 74) = W0 at *
      refine (short_yes _ _ _ _ _ _ _).mono ?_
      rintro e w1 ⟨rfl, he1⟩
      obtain ⟨x0, x1, x2, x3⟩ := keep4' he1 hbx
      go_wp2_with fail
      have heE := hbx.ext.trans he1
      refine (addLong_any s1 s2 none none 0 0 0 0 s1 s2 w1 (h1k.out.ext heE) (h2k.out.ext heE) K hK Hf1.out Hf2.out).mono ?_
      rintro e w2 ⟨s4, a4, n4, c4, rfl, hI4, hx2⟩
      have hr4 := (hbx.res.ext he1).ext hx2
      have k0 := hr4.c0; have k1 := hr4.c1; have g0 := hr4.f0; have g1 := hr4.f1
      go_wp2_with fail
      exact bodyPost_ret (v := .agg #[.int .i64 s4, .slice a4 n4 c4]) (by simp [results, Tryz.results125, go_sem, k0, k1]) rfl ⟨s4, a4, n4, c4, rfl, hI4.setRes hr4.row _ _, (heE.trans hx2).setRes (by omega) _ _⟩
  · have h1k := hid h1; have h2k := hid h2
    have hsn := fun wx => short_no s1 s2 a1 a2 n1 c1 n2 c2 wx hsh
    have Hsn := hid hsn
    clear h1 h2 hsn hsh
    go_enter Tryz.func125, Tryz.ntmps125
    go_wp2_with fail
    have hbx := boxes2 w (.int .i64 s1) (.slice a1 n1 c1) (.int .i64 s2) (.slice a2 n2 c2)
    generalize ((w.alloc (.cells #[.int .i64 s1, .slice a1 n1 c1] 74)).alloc (.cells #[.int .i64 s2, .slice a2 n2 c2] 74)).alloc (.cells #[.int .i64 0, .slice none 0 0] 74) = W0 at *
    refine (Hsn.out _).mono ?_
    rintro e w1 ⟨rfl, he1⟩
    obtain ⟨x0, x1, x2, x3⟩ := keep4' he1 hbx
    go_wp2_with fail
    have heE := hbx.ext.trans he1
    refine (addLong_any s1 s2 a1 a2 n1 c1 n2 c2 z1 z2 w1 (h1k.out.ext heE) (h2k.out.ext heE) K hK Hf1.out Hf2.out).mono ?_
    rintro e w2 ⟨s4, a4, n4, c4, rfl, hI4, hx2⟩
    have hr4 := (hbx.res.ext he1).ext hx2
    have k0 := hr4.c0; have k1 := hr4.c1; have g0 := hr4.f0; have g1 := hr4.f1
    go_wp2_with fail
    exact bodyPost_ret (v := .agg #[.int .i64 s4, .slice a4 n4 c4]) (by simp [results, Tryz.results125, go_sem, k0, k1]) rfl ⟨s4, a4, n4, c4, rfl, hI4.setRes hr4.row _ _, (heE.trans hx2).setRes (by omega) _ _⟩

/-- What is behind a call that is handed a world later than w. -/
theorem Neg_from {w : World} {sm : Int} {ao : Option Addr} {n c : Nat} {z : Int} (h : IsInt w sm ao n c z) : ∀ wx : World, Ext w wx → Calls Tryz.prog 126 #[.agg #[.int .i64 sm, .slice ao n c]] wx fun e w' =>
    ∃ (s' : Int) (a' : Option Addr) (n' c' : Nat), e = .returned (.agg #[.int .i64 s', .slice a' n' c']) ∧ IsInt w' s' a' n' c' (-z) ∧ Ext w w' ∧ Ext wx w' :=
  fun wx hx => (Neg_any sm ao n c z wx (h.ext hx)).mono fun _ _ ⟨s', a', n', c', h1, h2, h3⟩ => ⟨s', a', n', c', h1, h2, hx.trans h3, h3⟩

theorem Add_from {w : World} {s1 : Int} {a1 : Option Addr} {n1 c1 : Nat} {z1 : Int} (h1 : IsInt w s1 a1 n1 c1 z1) (K : Nat) (hK : K ≤ 4194304) (hf1 : Fit K z1) : ∀ (wx : World) (s2 : Int) (a2 : Option Addr) (n2 c2 : Nat) (z2 : Int), Ext w wx → IsInt wx s2 a2 n2 c2 z2 → Fit K z2 →
    Calls Tryz.prog 125 #[.agg #[.int .i64 s1, .slice a1 n1 c1], .agg #[.int .i64 s2, .slice a2 n2 c2]] wx fun e w' =>
    ∃ (s' : Int) (a' : Option Addr) (n' c' : Nat), e = .returned (.agg #[.int .i64 s', .slice a' n' c']) ∧ IsInt w' s' a' n' c' (z1 + z2) ∧ Ext w w' ∧ Ext wx w' :=
  fun wx s2 a2 n2 c2 z2 hx h2 hf2 => (Add_any s1 s2 a1 a2 n1 c1 n2 c2 z1 z2 wx (h1.ext hx) h2 K hK hf1 hf2).mono fun _ _ ⟨s', a', n', c', e1, e2, e3⟩ => ⟨s', a', n', c', e1, e2, hx.trans e3, e3⟩

theorem Fit.neg {k : Nat} {z : Int} (h : Fit k z) : Fit k (-z) := by unfold Fit at *; rw [Int.natAbs_neg]; exact h

set_option maxHeartbeats 1000000 in
set_option maxRecDepth 100000 in
theorem Sub_any (s1 s2 : Int) (a1 a2 : Option Addr) (n1 c1 n2 c2 : Nat) (z1 z2 : Int) (w : World) (h1 : IsInt w s1 a1 n1 c1 z1) (h2 : IsInt w s2 a2 n2 c2 z2) (K : Nat) (hK : K ≤ 4194304) (hf1 : Fit K z1) (hf2 : Fit K z2) :
    Calls Tryz.prog 86 #[.agg #[.int .i64 s1, .slice a1 n1 c1], .agg #[.int .i64 s2, .slice a2 n2 c2]] w fun e w' => ∃ (s' : Int) (a' : Option Addr) (n' c' : Nat), e = .returned (.agg #[.int .i64 s', .slice a' n' c']) ∧ IsInt w' s' a' n' c' (z1 - z2) ∧ Ext w w' := by
  have Hf1 := hid hf1; have Hf2 := hid hf2; have H1 := hid h1; have H2 := hid h2
  clear hf1 hf2 h1 h2
  go_enter Tryz.func86, Tryz.ntmps86
  go_wp2_with fail
  have hbx := boxes2 w (.int .i64 s1) (.slice a1 n1 c1) (.int .i64 s2) (.slice a2 n2 c2)
  generalize ((w.alloc (.cells #[.int .i64 s1, .slice a1 n1 c1] 74)).alloc (.cells #[.int .i64 s2, .slice a2 n2 c2] 74)).alloc (.cells #[.int .i64 0, .slice none 0 0] 74) = W0 at *
  have Hn := hid (Neg_from (H2.out.ext hbx.ext)); have Ha := hid (Add_from (H1.out.ext hbx.ext) K hK Hf1.out)
  have hE0d : Ext W0 W0.drew := Below.drew (Ext.refl _)
  have hB : w.heap.size + 1 < W0.heap.size := by have := hbx.size; omega
  have c0 := hbx.c0; have c1' := hbx.c1; have d0 := hbx.d0; have d1 := hbx.d1
  go_region_held3 (fun w' => w'.cell? ⟨w.heap.size, 0, none⟩ = some (.int .i64 s1) ∧ w'.cell? ⟨w.heap.size, 1, none⟩ = some (.slice a1 n1 c1) ∧ w'.cell? ⟨w.heap.size + 1, 0, none⟩ = some (.int .i64 s2) ∧ w'.cell? ⟨w.heap.size + 1, 1, none⟩ = some (.slice a2 n2 c2)) (first | exact keep4 (by assumption) hB c0 c1' d0 d1 | exact keep4s (by assumption) hbx _ _)
    (first | (go_at_call 126; refine (Hn.out _ (by assumption)).mono ?_; rintro e wa ⟨s3, a3, n3, c3, rfl, hI3, hea, hxa⟩) | (go_at_call 125; refine (Ha.out _ s3 a3 n3 c3 _ hea hI3 Hf2.out.neg).mono ?_; rintro e wb ⟨s4, a4, n4, c4, rfl, hI4, heb, hxb⟩; have hr4 := hbx.res.ext heb; have k0 := hr4.c0; have k1 := hr4.c1; have g0 := hr4.f0; have g1 := hr4.f1))
  go_wp2_with fail
  exact bodyPost_ret (v := .agg #[.int .i64 s4, .slice a4 n4 c4]) (by simp [results, Tryz.results86, go_sem, k0, k1]) rfl ⟨s4, a4, n4, c4, rfl, (hI4.cast (by omega)).setRes hr4.row _ _, (hbx.ext.trans heb).setRes (by omega) _ _⟩

end Go.Proofs.YtfjnlopbmkimiaaGreatDoor
namespace Go.Proofs.YtfjnlopbmkimiaaGreatDoor
open Go.RowKit

/-- The sign's Bool, as the program asks for it. -/
theorem IsInt.bool {w : World} {sm : Int} {ao : Option Addr} {n c : Nat} {z : Int} (h : IsInt w sm ao n c z) : z = sgn (decide (sm < 0)) z.natAbs := by
  have h5 := h.sign.1
  by_cases h6 : sm < 0
  · have := h5.1 h6; simp [sgn, h6]; omega
  · have : ¬ z < 0 := fun k => h6 (h5.2 k)
    simp [sgn, h6]; omega

end Go.Proofs.YtfjnlopbmkimiaaGreatDoor
namespace Go.Proofs.YtfjnlopbmkimiaaGreatDoor
open Go.RowKit

/-- The world behind the boxing of two numbers. -/
structure Boxed2 (w W : World) (x1 y1 x2 y2 : Value) : Prop where
  ext : Ext w W
  size : W.heap.size = w.heap.size + 2
  c0 : W.cell? ⟨w.heap.size, 0, none⟩ = some x1
  c1 : W.cell? ⟨w.heap.size, 1, none⟩ = some y1
  d0 : W.cell? ⟨w.heap.size + 1, 0, none⟩ = some x2
  d1 : W.cell? ⟨w.heap.size + 1, 1, none⟩ = some y2

theorem boxed2 (w : World) (x1 y1 x2 y2 : Value) : Boxed2 w ((w.alloc (.cells #[x1, y1] 74)).alloc (.cells #[x2, y2] 74)) x1 y1 x2 y2 :=
  ⟨(Ext.alloc _ _).then _, by simp, by simp, by simp, by simp, by simp⟩

theorem keepb {w W w' : World} {x y x2 y2 : Value} (h : Ext W w') (hb : Boxed2 w W x y x2 y2) : w'.cell? ⟨w.heap.size, 0, none⟩ = some x ∧ w'.cell? ⟨w.heap.size, 1, none⟩ = some y ∧ w'.cell? ⟨w.heap.size + 1, 0, none⟩ = some x2 ∧ w'.cell? ⟨w.heap.size + 1, 1, none⟩ = some y2 :=
  keep4 h (by have := hb.size; omega) hb.c0 hb.c1 hb.d0 hb.d1

theorem Sign_from {w : World} (sm : Int) (lv : Value) : ∀ wx : World, Ext w wx → Calls Tryz.prog 61 #[.agg #[.int .i64 sm, lv]] wx fun e w' => e = .returned (.int .i64 (cmp3 sm 0)) ∧ Ext w w' ∧ Ext wx w' :=
  fun wx hx => (Sign_any sm lv wx).mono fun _ _ h => ⟨h.1, hx.trans h.2, h.2⟩

theorem cmp3_sgn (b1 b2 : Bool) (x y : Nat) (hb : b1 ≠ b2) (h1 : b1 = true → 0 < x) (h2 : b2 = true → 0 < y) : cmp3 (cmp3 (sgn b1 x) 0) (cmp3 (sgn b2 y) 0) = cmp3 (sgn b1 x) (sgn b2 y) := by
  cases b1 <;> cases b2
  · exact absurd rfl hb
  · have := h2 rfl
    have e2 : cmp3 (sgn true y) 0 = -1 := cmp3_lt (by simp [sgn]; omega)
    rw [e2, cmp3_gt (x := sgn false x) (y := sgn true y) (by simp [sgn]; omega)]
    unfold cmp3; simp [sgn]; split <;> omega
  · have := h1 rfl
    have e1 : cmp3 (sgn true x) 0 = -1 := cmp3_lt (by simp [sgn]; omega)
    rw [e1, cmp3_lt (x := sgn true x) (y := sgn false y) (by simp [sgn]; omega)]
    unfold cmp3; simp [sgn]; split <;> omega
  · exact absurd rfl hb

theorem cmp3_same (b : Bool) (x y : Nat) : cmp3 (sgn b x) (sgn b y) = (if b then cmp3 (y : Int) (x : Int) else cmp3 (x : Int) (y : Int)) := by
  cases b
  · simp [sgn]
  · simp only [sgn, if_true]
    unfold cmp3
    split <;> split <;> (try split) <;> (try split) <;> omega

set_option maxHeartbeats 1000000 in
set_option maxRecDepth 100000 in
theorem Cmp_any (s1 s2 : Int) (a1 a2 : Option Addr) (n1 c1 n2 c2 : Nat) (z1 z2 : Int) (w : World) (h1 : IsInt w s1 a1 n1 c1 z1) (h2 : IsInt w s2 a2 n2 c2 z2) (K : Nat) (hK : K ≤ 4194304) (hf1 : Fit K z1) (hf2 : Fit K z2) :
    Calls Tryz.prog 85 #[.agg #[.int .i64 s1, .slice a1 n1 c1], .agg #[.int .i64 s2, .slice a2 n2 c2]] w fun e w' => e = .returned (.int .i64 (cmp3 z1 z2)) ∧ Ext w w' := by
  have Hf1 := hid hf1; have Hf2 := hid hf2; have H1 := hid h1; have H2 := hid h2
  have hz1 := h1.bool; have hz2 := h2.bool
  have hsg1 := hid h1.sign; have hsg2 := hid h2.sign
  have hc1 := hid h1.cmp3; have hc2 := hid h2.cmp3
  clear hf1 hf2 h1 h2
  by_cases hsh : a1 = none ∧ a2 = none
  · obtain ⟨rfl, rfl⟩ := hsh
    obtain ⟨rfl, rfl, rfl, r1, r2⟩ := H1.out.none
    obtain ⟨rfl, rfl, rfl, r3, r4⟩ := H2.out.none
    clear hz1 hz2
    go_enter Tryz.func85, Tryz.ntmps85
    go_wp2_with fail
    have hbx := boxed2 w (.int .i64 s1) (.slice none 0 0) (.int .i64 s2) (.slice none 0 0)
    generalize (w.alloc (.cells #[.int .i64 s1, .slice none 0 0] 74)).alloc (.cells #[.int .i64 s2, .slice none 0 0] 74) = W0 at *
    refine (short_yes _ _ _ _ _ _ _).mono ?_
    rintro e we ⟨rfl, hxe⟩
    obtain ⟨y0, y1, y2, y3⟩ := keepb hxe hbx
    go_wp2_with fail
    refine (compareInt_any _ _ _).mono ?_
    rintro e wf ⟨rfl, rfl⟩
    go_wp2_with fail
    go_ret
    exact ⟨rfl, hbx.ext.trans hxe⟩
  · have Hsn := hid (fun wx => short_no s1 s2 a1 a2 n1 c1 n2 c2 wx hsh)
    clear hsh
    have Hz10 := hid hz1; have Hz20 := hid hz2
    clear hz1 hz2
    go_enter Tryz.func85, Tryz.ntmps85
    go_wp2_with fail
    have hbx := boxed2 w (.int .i64 s1) (.slice a1 n1 c1) (.int .i64 s2) (.slice a2 n2 c2)
    generalize (w.alloc (.cells #[.int .i64 s1, .slice a1 n1 c1] 74)).alloc (.cells #[.int .i64 s2, .slice a2 n2 c2] 74) = W0 at *
    have Hw1 := hid (words_from (H1.out.ext hbx.ext)); have Hw2 := hid (words_from (H2.out.ext hbx.ext))
    obtain ⟨b1, hb1⟩ : ∃ b, decide (s1 < 0) = b := ⟨_, rfl⟩
    obtain ⟨b2, hb2⟩ : ∃ b, decide (s2 < 0) = b := ⟨_, rfl⟩
    have hn1 := negative_from (w := W0) s1 (.slice a1 n1 c1); have hn2 := negative_from (w := W0) s2 (.slice a2 n2 c2)
    have hz1 := Hz10.out; have hz2 := Hz20.out
    have hp1 : b1 = true → 0 < z1.natAbs := by
      intro h; have := hsg1.out.1.1 (by rw [← hb1] at h; simpa using h); omega
    have hp2 : b2 = true → 0 < z2.natAbs := by
      intro h; have := hsg2.out.1.1 (by rw [← hb2] at h; simpa using h); omega
    rw [hb1] at hn1 hz1; rw [hb2] at hn2 hz2
    have Hn1 := hid hn1; have Hn2 := hid hn2; have Hz1 := hid hz1; have Hz2 := hid hz2
    have HS1 := hid (Sign_from (w := W0) s1 (.slice a1 n1 c1)); have HS2 := hid (Sign_from (w := W0) s2 (.slice a2 n2 c2))
    have Hp1 := hid hp1; have Hp2 := hid hp2
    clear hn1 hn2 hb1 hb2 hz1 hz2 hp1 hp2
    have hB : w.heap.size + 1 < W0.heap.size := by have := hbx.size; omega
    refine (Hsn.out _).mono ?_
    rintro e we ⟨rfl, hxe⟩
    obtain ⟨y0, y1, y2, y3⟩ := keepb hxe hbx
    have heed : Ext W0 we.drew := Below.drew hxe
    go_wp2_with fail
    go_region_held3 (fun w' => w'.cell? ⟨w.heap.size, 0, none⟩ = some (.int .i64 s1) ∧ w'.cell? ⟨w.heap.size, 1, none⟩ = some (.slice a1 n1 c1) ∧ w'.cell? ⟨w.heap.size + 1, 0, none⟩ = some (.int .i64 s2) ∧ w'.cell? ⟨w.heap.size + 1, 1, none⟩ = some (.slice a2 n2 c2)) (first | exact keepb (by assumption) hbx)
      (first | (go_at_call_of 95 s1; refine (Hn1.out _ (by assumption)).mono ?_; rintro e wc ⟨rfl, hec, hxc⟩) | (go_at_call_of 95 s2; refine (Hn2.out _ (by assumption)).mono ?_; rintro e wd ⟨rfl, hed, hxd⟩))
    obtain ⟨x0, x1, x2, x3⟩ := keepb hed hbx
    have hedd : Ext W0 wd.drew := Below.drew hed
    clear hec hxc hxd y0 y1 y2 y3 hxe heed
    by_cases hbb : b1 = b2
    · subst hbb
      have hbt : (!(b1 == b1)) = false := by simp
      rw [hbt]
      clear hbt
      go_wp2_with fail
      refine (Hn1.out _ hed).mono ?_
      rintro e wf ⟨rfl, hef, hxf⟩
      obtain ⟨t0, t1, t2, t3⟩ := keepb hef hbx
      have hefd : Ext W0 wf.drew := Below.drew hef
      clear x0 x1 x2 x3
      cases b1
      · go_wp2_with fail
        go_region_held3 (fun w' => w'.cell? ⟨w.heap.size, 0, none⟩ = some (.int .i64 s1) ∧ w'.cell? ⟨w.heap.size, 1, none⟩ = some (.slice a1 n1 c1) ∧ w'.cell? ⟨w.heap.size + 1, 0, none⟩ = some (.int .i64 s2) ∧ w'.cell? ⟨w.heap.size + 1, 1, none⟩ = some (.slice a2 n2 c2)) (first | exact keepb (by assumption) hbx)
          (first | (go_at_call_of 124 s1; refine (Hw1.out _ (by assumption)).mono ?_; rintro e wa ⟨p1, l1, m1, e1, rfl, hl1, hm1, he1, hsg1', hd1, hr1, Hv1, hea, hxa⟩; have Hl1 := hid hl1; clear hl1) | (go_at_call_of 124 s2; refine (Hw2.out _ (by assumption)).mono ?_; rintro e wb ⟨p2, l2, m2, e2, rfl, hl2, hm2, he2, hsg2', hd2, hr2, Hv2, heb, hxb⟩; have Hl2 := hid hl2; clear hl2) | (go_at_call 123; refine (compareWords_any p1 p2 l1 l2 m1 m2 e1 e2 wb Hl1.out Hl2.out (hsg1'.ext hxb) hsg2' hd1 hd2 hr1 hr2 hm1 hm2 (by have := Hf1.out.len hr1 Hv1.out; have := Hl1.out; omega) (by have := Hf2.out.len hr2 Hv2.out; have := Hl2.out; omega)).mono ?_; rintro e wg ⟨rfl, hxg⟩; have heg := heb.trans hxg))
        go_wp2_with fail
        go_ret
        refine ⟨?_, hbx.ext.trans heg⟩
        have e5 : cmp3 z1 z2 = cmp3 (val l1) (val l2) := by rw [Hz1.out, Hz2.out, cmp3_same, Hv1.out, Hv2.out]; simp
        rw [e5]; rfl
      · go_wp2_with fail
        go_region_held3 (fun w' => w'.cell? ⟨w.heap.size, 0, none⟩ = some (.int .i64 s1) ∧ w'.cell? ⟨w.heap.size, 1, none⟩ = some (.slice a1 n1 c1) ∧ w'.cell? ⟨w.heap.size + 1, 0, none⟩ = some (.int .i64 s2) ∧ w'.cell? ⟨w.heap.size + 1, 1, none⟩ = some (.slice a2 n2 c2)) (first | exact keepb (by assumption) hbx)
          (first | (go_at_call_of 124 s2; refine (Hw2.out _ (by assumption)).mono ?_; rintro e wb ⟨p2, l2, m2, e2, rfl, hl2, hm2, he2, hsg2', hd2, hr2, Hv2, heb, hxb⟩; have Hl2 := hid hl2; clear hl2) | (go_at_call_of 124 s1; refine (Hw1.out _ (by assumption)).mono ?_; rintro e wa ⟨p1, l1, m1, e1, rfl, hl1, hm1, he1, hsg1', hd1, hr1, Hv1, hea, hxa⟩; have Hl1 := hid hl1; clear hl1) | (go_at_call 123; refine (compareWords_any p2 p1 l2 l1 m2 m1 e2 e1 wa Hl2.out Hl1.out (hsg2'.ext hxa) hsg1' hd2 hd1 hr2 hr1 hm2 hm1 (by have := Hf2.out.len hr2 Hv2.out; have := Hl2.out; omega) (by have := Hf1.out.len hr1 Hv1.out; have := Hl1.out; omega)).mono ?_; rintro e wg ⟨rfl, hxg⟩; have heg := hea.trans hxg))
        go_wp2_with fail
        go_ret
        refine ⟨?_, hbx.ext.trans heg⟩
        have e5 : cmp3 z1 z2 = cmp3 (val l2) (val l1) := by rw [Hz1.out, Hz2.out, cmp3_same, Hv1.out, Hv2.out]; simp
        rw [e5]; rfl
    · have hbt : (!(b1 == b2)) = true := by cases b1 <;> cases b2 <;> simp_all
      rw [hbt]
      clear hbt
      have Hbb := hid hbb
      clear hbb
      go_wp2_with fail
      go_region_held3 (fun w' => w'.cell? ⟨w.heap.size, 0, none⟩ = some (.int .i64 s1) ∧ w'.cell? ⟨w.heap.size, 1, none⟩ = some (.slice a1 n1 c1) ∧ w'.cell? ⟨w.heap.size + 1, 0, none⟩ = some (.int .i64 s2) ∧ w'.cell? ⟨w.heap.size + 1, 1, none⟩ = some (.slice a2 n2 c2)) (first | exact keepb (by assumption) hbx)
        (first | (go_at_call_of 61 s1; refine (HS1.out _ (by assumption)).mono ?_; rintro e wa ⟨rfl, hea, hxa⟩) | (go_at_call_of 61 s2; refine (HS2.out _ (by assumption)).mono ?_; rintro e wb ⟨rfl, heb, hxb⟩) | (go_at_call 98; refine (compareInt_any _ _ _).mono ?_; rintro e wg ⟨rfl, rfl⟩))
      go_wp2_with fail
      go_ret
      refine ⟨?_, hbx.ext.trans heb⟩
      have e5 : cmp3 z1 z2 = cmp3 (cmp3 s1 0) (cmp3 s2 0) := by
        rw [hc1.out, hc2.out]
        have := cmp3_sgn b1 b2 z1.natAbs z2.natAbs Hbb.out Hp1.out Hp2.out
        rw [← Hz1.out, ← Hz2.out] at this
        exact this.symm
      rw [e5]; rfl

end Go.Proofs.YtfjnlopbmkimiaaGreatDoor
namespace Go.Proofs.YtfjnlopbmkimiaaGreatDoor
open Go.RowKit

/-- The table of TrailingZeros64 stands. -/
abbrev Bru (w : World) : Prop := TabAt 1 Lib.deBruijn64tab w
theorem bru_ext {w w' : World} (h : Bru w) (he : Ext w w') : Bru w' := fun j hj => by
  have := h j hj
  exact (he.cell (World.block_lt_of_cell? w _ this)).trans this

theorem tw_neg {x t : Nat} (h : Tw x t) (ht : t < 64) (hx : x < 18446744073709551616) : Tw (18446744073709551616 - x) t := by
  obtain ⟨m, rfl⟩ := h
  obtain ⟨d, hd⟩ : ∃ d, 64 = t + (d + 1) := ⟨63 - t, by omega⟩
  have e : (18446744073709551616 : Nat) = 2 ^ t * (2 * 2 ^ d) := by
    have : (18446744073709551616 : Nat) = 2 ^ 64 := by decide
    rw [this]
    conv => lhs; rw [hd]
    rw [Nat.pow_add, Nat.pow_succ, Nat.mul_comm (2 ^ d) 2]
  rw [e] at hx ⊢
  have hlt : 2 * m + 1 < 2 * 2 ^ d := Nat.lt_of_mul_lt_mul_left hx
  refine ⟨2 ^ d - m - 1, ?_⟩
  rw [← Nat.mul_sub]
  congr 1
  omega

theorem val_all_zero (l : List Nat) (h : ∀ t, t < l.length → l.getD t 0 = 0) : val l = 0 := by
  induction l with
  | nil => rfl
  | cons x r ih =>
    have hx : x = 0 := by have := h 0 (by simp); simpa using this
    have := ih (fun t ht => by have := h (t + 1) (by simpa using ht); simpa using this)
    rw [val, hx, this, Nat.mul_zero]

set_option maxHeartbeats 1000000 in
set_option maxRecDepth 100000 in
theorem Twos_any (sm : Int) (ao : Option Addr) (n c : Nat) (z : Int) (w : World) (h : IsInt w sm ao n c z) (hn : n ≤ 16777216) (hbr : Bru w) :
    Calls Tryz.prog 151 #[.agg #[.int .i64 sm, .slice ao n c]] w fun e w' => ∃ t : Nat, e = .returned (.int .i64 t) ∧ (z ≠ 0 → Tw z.natAbs t) ∧ (z = 0 → t = 0) ∧ t < 64 * n + 64 ∧ Ext w w' := by
  have hEb := Ext.alloc w (.cells #[.int .i64 sm, .slice ao n c] 74)
  have hc := h.cmp3
  have Hs := hid (Sign_any sm (.slice ao n c))
  have Hbr := hid hbr
  obtain ⟨sg, hsg'⟩ : ∃ sg, cmp3 sm 0 = sg := ⟨_, rfl⟩
  rw [hsg'] at Hs
  have q1 := eql_nil ao n c 0 0
  clear hbr
  by_cases hz : z = 0
  · have hb0 : sg = 0 := by rw [← hsg', hc, hz]; decide
    subst hb0
    clear h hc hsg'
    go_enter Tryz.func151, Tryz.ntmps151
    go_wp2_with fail
    refine (Hs.out _).mono ?_
    rintro e w1 ⟨rfl, hx1⟩
    go_wp2_with fail
    go_ret
    exact ⟨0, rfl, fun k => absurd hz k, fun _ => rfl, by omega, hEb.trans hx1⟩
  · have hb0 : (sg == 0) = false := by
      rw [beq_eq_false_iff_ne, ← hsg', hc]
      unfold cmp3
      split
      · decide
      · split
        · decide
        · omega
    have Hz := hid hz
    clear hz hc hsg'
    rcases h with ⟨rfl, rfl, rfl, rfl, h1, h2⟩ | ⟨b, o, l, rfl, hl, hnc, hcm, hs, hd, hr, hzz⟩
    · obtain ⟨x, hx⟩ : ∃ x : Nat, IntKind.u64.wrap sm = (x : Int) := ⟨(IntKind.u64.wrap sm).toNat, by rw [IntKind.wrap_u64]; omega⟩
      have hx' : (x : Int) = sm % 18446744073709551616 := by rw [← hx, IntKind.wrap_u64]
      have hxb : x < 18446744073709551616 := by omega
      have hx0 : x ≠ 0 := by have := Hz.out; omega
      have htw := tw_ctz x hx0 (by rw [B64_eq]; exact hxb)
      have Ht : Hid (Tw sm.natAbs (Lib.ctz 64 x)) := by
        by_cases hneg : sm < 0
        · have e : sm.natAbs = 18446744073709551616 - x := by omega
          show Tw _ _
          rw [e]; exact tw_neg htw.1 htw.2 hxb
        · have e : sm.natAbs = x := by omega
          show Tw _ _
          rw [e]; exact htw.1
      have Htz := hid (fun wx (hb : Bru wx) => Tryz.bits_TrailingZeros64 x hxb wx (fun _ => hb))
      obtain ⟨t, ht⟩ : ∃ t, Lib.ctz 64 x = t := ⟨_, rfl⟩
      have htl := htw.2
      rw [ht] at Ht Htz htl
      clear hx' hx0 htw ht
      go_enter Tryz.func151, Tryz.ntmps151
      go_wp2_with fail
      refine (Hs.out _).mono ?_
      rintro e w1 ⟨rfl, hx1⟩
      have k0 := (hx1.cell (p := ⟨w.heap.size, 0, none⟩) (by simp)).trans (show _ = some (.int .i64 sm) from by simp)
      have k1 := (hx1.cell (p := ⟨w.heap.size, 1, none⟩) (by simp)).trans (show _ = some (.slice none 0 0) from by simp)
      go_wp2_with fail
      refine (Htz.out _ (bru_ext Hbr.out (hEb.trans hx1))).mono ?_
      rintro e w2 ⟨rfl, rfl⟩
      go_wp2_with fail
      go_ret
      exact ⟨t, rfl, fun _ => Ht.out, fun k => absurd k Hz.out, by omega, hEb.trans hx1⟩
    · have hno : (some (⟨b, o, none⟩ : Addr)).isNone = false := rfl
      have hzv : z.natAbs = val l := by rcases hzz with ⟨_, h, _⟩ | ⟨_, h, _⟩ <;> omega
      have Hl := hid hl; have Hd := hid hd; have Hzv := hid hzv
      have Hs0 := hid hs
      clear hl hd hr hzz hs hzv
      go_enter Tryz.func151, Tryz.ntmps151
      go_wp2_with fail
      refine (Hs.out _).mono ?_
      rintro e w1 ⟨rfl, hx1⟩
      have k0 := (hx1.cell (p := ⟨w.heap.size, 0, none⟩) (by simp)).trans (show _ = some (.int .i64 sm) from by simp)
      have k1 := (hx1.cell (p := ⟨w.heap.size, 1, none⟩) (by simp)).trans (show _ = some (.slice (some ⟨b, o, none⟩) n c) from by simp)
      have Hs1 := hid (Hs0.out.ext (hEb.trans hx1))
      go_wp2_with fail
      go_loop [3] (fun i => ∃ k : Nat, k < n ∧ i = .int .i64 k ∧ ∀ t, t < k → l.getD t 0 = 0) (fun i => n - (intOf i).toNat)
      case atStart =>
        refine ⟨0, ?_, rfl, fun t ht => absurd ht (by omega)⟩
        apply Nat.pos_of_ne_zero
        intro h0
        have : l = [] := List.eq_nil_of_length_eq_zero (by rw [Hl.out, h0])
        have h3 := Hzv.out
        rw [this] at h3
        simp [val] at h3
        exact Hz.out h3
      case round =>
        obtain ⟨k, hk, rfl, hall⟩ := hrel
        have Hall := hid hall
        clear hall
        have hck : w1.cell? ⟨b, o + k, none⟩ = some (.int .u64 (l.getD k 0 : Nat)) := by
          rcases Hs1.out with ⟨h, _⟩ | ⟨b', o', h, _, hc⟩
          · cases h
          · simp only [Option.some.injEq, Addr.mk.injEq, and_true] at h
            obtain ⟨rfl, rfl⟩ := h
            exact hc k (by rw [Hl.out]; exact hk)
        obtain ⟨x, hx⟩ : ∃ x, l.getD k 0 = x := ⟨_, rfl⟩
        rw [hx] at hck
        have Hx := hid hx
        clear hx
        have ik : (k : Int) < (n : Int) := by omega
        by_cases hx0 : x = 0
        · subst hx0
          have hk1 : k + 1 < n := by
            apply Nat.lt_of_le_of_ne hk
            intro h0
            have : val l = 0 := val_all_zero l (fun t ht => by
              rw [Hl.out] at ht
              by_cases e : t = k
              · rw [e]; exact Hx.out
              · exact Hall.out t (by omega))
            have h3 := Hzv.out
            rw [this] at h3
            exact Hz.out (by omega)
          go_wp2_with fail
          go_round
          case rel => exact ⟨k + 1, hk1, by go_num, fun t ht => by
            by_cases e : t = k
            · rw [e]; exact Hx.out
            · exact Hall.out t (by omega)⟩
          case measure => simp [intOf]; omega
        · have hxB : x < B64 := by
            rw [← Hx.out]
            have hkl : k < l.length := by rw [Hl.out]; exact hk
            rw [List.getD_eq_getElem?_getD, List.getElem?_eq_getElem hkl]
            exact Hd.out _ (List.getElem_mem hkl)
          have hbx : ((x : Int) == 0) = false := by rw [beq_eq_false_iff_ne]; omega
          have htw := tw_ctz x hx0 hxB
          have Htz := hid (fun wx (hb : Bru wx) => Tryz.bits_TrailingZeros64 x (by rw [B64_eq] at hxB; exact hxB) wx (fun _ => hb))
          obtain ⟨t, ht⟩ : ∃ t, Lib.ctz 64 x = t := ⟨_, rfl⟩
          rw [ht] at htw Htz
          have Ht : Hid (Tw z.natAbs (64 * k + t)) := by
            show Tw _ _
            rw [Hzv.out, val_noughts l k (by rw [Hl.out]; exact hk) Hall.out, Hx.out]
            exact tw_words k x _ t htw.1 htw.2
          have htl := htw.2
          clear htw ht hxB hx0
          go_wp2_with fail
          refine (Htz.out _ (bru_ext Hbr.out (hEb.trans hx1))).mono ?_
          rintro e w2 ⟨rfl, rfl⟩
          go_wp2_with fail
          go_ret
          exact ⟨64 * k + t, by go_num, fun _ => Ht.out, fun k => absurd k Hz.out, by omega, hEb.trans hx1⟩

end Go.Proofs.YtfjnlopbmkimiaaGreatDoor
namespace Go.Proofs.YtfjnlopbmkimiaaGreatDoor

/-- n digits of v, noughts ahead. -/
def padD (n v : Nat) : List UInt8 := (List.range n).map fun t => Lib.dg v (n - 1 - t)

theorem padD_length (n v : Nat) : (padD n v).length = n := by simp [padD]

theorem dg_up (v n j : Nat) : Lib.dg v (n + j) = Lib.dg (v / 10 ^ n) j := by
  unfold Lib.dg
  rw [Nat.pow_add, Nat.div_div_eq_div_mul]

theorem dg_low (v n j : Nat) (h : j < n) : Lib.dg (v % 10 ^ n) j = Lib.dg v j := by
  unfold Lib.dg
  obtain ⟨k, rfl⟩ : ∃ k, n = j + (k + 1) := ⟨n - j - 1, by omega⟩
  have e : v % 10 ^ (j + (k + 1)) / 10 ^ j % 10 = v / 10 ^ j % 10 := by
    rw [Nat.pow_add, Nat.mod_mul_right_div_self, Nat.pow_succ, Nat.mul_comm (10 ^ k) 10, Nat.mod_mul_right_mod]
  rw [e]

theorem padD_append (m n v : Nat) : padD (m + n) v = padD m (v / 10 ^ n) ++ padD n (v % 10 ^ n) := by
  unfold padD
  rw [List.range_add, List.map_append, List.map_map]
  congr 1
  · refine List.map_congr_left fun t ht => ?_
    have ht' : t < m := List.mem_range.1 ht
    rw [show m + n - 1 - t = n + (m - 1 - t) by omega, dg_up]
  · refine List.map_congr_left fun t ht => ?_
    have ht' : t < n := List.mem_range.1 ht
    show Lib.dg v (m + n - 1 - (m + t)) = _
    rw [show m + n - 1 - (m + t) = n - 1 - t by omega, dg_low _ _ _ (by omega)]

theorem decDigits_pad (u : Nat) : Lib.decDigits u = padD (Lib.nDigits u) u := Lib.decDigits_eq u

theorem nDigits_div (n v : Nat) (h : 0 < v / 10 ^ n) : Lib.nDigits v = Lib.nDigits (v / 10 ^ n) + n := by
  induction n generalizing v with
  | zero => simp
  | succ n ih =>
    rw [Nat.pow_succ, Nat.mul_comm, ← Nat.div_div_eq_div_mul] at h ⊢
    have h10 : ¬ v < 10 := by
      intro hv
      rw [Nat.div_eq_of_lt hv, Nat.zero_div] at h
      exact Nat.lt_irrefl _ h
    rw [Lib.nDigits_big h10, ih (v / 10) h]
    omega

theorem decDigits_append (n v : Nat) (h : 0 < v / 10 ^ n) : Lib.decDigits v = Lib.decDigits (v / 10 ^ n) ++ padD n (v % 10 ^ n) := by
  rw [decDigits_pad v, nDigits_div n v h, padD_append, ← decDigits_pad]

theorem padD_zero (n : Nat) : padD n 0 = List.replicate n 48 := by
  unfold padD
  apply List.ext_getElem
  · simp
  · intro i h1 h2
    simp [Lib.dg]

theorem padD_fill (n v : Nat) (h : Lib.nDigits v ≤ n) : padD n v = List.replicate (n - Lib.nDigits v) 48 ++ Lib.decDigits v := by
  obtain ⟨m, rfl⟩ : ∃ m, n = m + Lib.nDigits v := ⟨n - Lib.nDigits v, by omega⟩
  have hlt := Lib.lt_pow_nDigits v
  rw [padD_append, Nat.div_eq_of_lt hlt, Nat.mod_eq_of_lt hlt, padD_zero, Nat.add_sub_cancel, ← decDigits_pad]

theorem nDigits_le (n v : Nat) (hn : 1 ≤ n) (h : v < 10 ^ n) : Lib.nDigits v ≤ n := by
  induction n generalizing v with
  | zero => omega
  | succ n ih =>
    by_cases h10 : v < 10
    · rw [Lib.nDigits_small h10]; exact hn
    · rw [Lib.nDigits_big h10]
      rw [Nat.pow_succ] at h
      have h1 : 1 ≤ n := by
        cases n with
        | zero => simp at h; omega
        | succ k => omega
      have := ih (v / 10) h1 (by omega)
      omega

end Go.Proofs.YtfjnlopbmkimiaaGreatDoor
namespace Go.Proofs.YtfjnlopbmkimiaaGreatDoor
open Go.RowKit

/-- The digits' bytes, as numbers. -/
def decN (v : Nat) : List Nat := (Lib.decDigits v).map UInt8.toNat
theorem decN_length (v : Nat) : (decN v).length = Lib.nDigits v := by unfold decN; rw [List.length_map, Lib.decDigits_length]

/-- A number's text. -/
def txt (z : Int) : List Nat := (Lib.itoa z).map UInt8.toNat
theorem txt_neg {z : Int} (h : z < 0) : txt z = 45 :: decN z.natAbs := by
  unfold txt Lib.itoa decN; rw [if_pos h]; rfl
theorem txt_pos {z : Int} (h : ¬ z < 0) : txt z = decN z.natAbs := by
  unfold txt Lib.itoa decN; rw [if_neg h]
  have : z.toNat = z.natAbs := by omega
  rw [this]

end Go.Proofs.YtfjnlopbmkimiaaGreatDoor
namespace Go.Proofs.YtfjnlopbmkimiaaGreatDoor
open Go.RowKit

/-- All words stand where they stood. -/
def Keep64 (w w' : World) : Prop := w.heap.size ≤ w'.heap.size ∧ ∀ b o x, w.cell? ⟨b, o, none⟩ = some (.int .u64 x) → w'.cell? ⟨b, o, none⟩ = some (.int .u64 x)

theorem Keep64.refl (w : World) : Keep64 w w := ⟨Nat.le_refl _, fun _ _ _ h => h⟩
theorem Keep64.trans {a b c : World} (h : Keep64 a b) (k : Keep64 b c) : Keep64 a c := ⟨Nat.le_trans h.1 k.1, fun _ _ _ q => k.2 _ _ _ (h.2 _ _ _ q)⟩
theorem Keep64.ext {w w' : World} (h : Ext w w') : Keep64 w w' :=
  ⟨h.size, fun b o _ q => (h.cell (p := ⟨b, o, none⟩) (World.block_lt_of_cell? w ⟨b, o, none⟩ q)).trans q⟩

theorem Seg.keep64 {w w' : World} {ao : Option Addr} {l : List Nat} (h : Seg w ao l) (k : Keep64 w w') : Seg w' ao l := by
  rcases h with h | ⟨b, o, rfl, hb, hc⟩
  · exact Or.inl h
  · exact Or.inr ⟨b, o, rfl, Nat.lt_of_lt_of_le hb k.1, fun t ht => k.2 _ _ _ (hc t ht)⟩

theorem IsInt.keep64 {w w' : World} {sm : Int} {ao : Option Addr} {n c : Nat} {z : Int} (h : IsInt w sm ao n c z) (k : Keep64 w w') : IsInt w' sm ao n c z := by
  rcases h with h | ⟨b, o, l, h1, h2, h3, h4, h5, h6⟩
  · exact Or.inl h
  · exact Or.inr ⟨b, o, l, h1, h2, h3, h4, h5.keep64 k, h6⟩

/-- There is something at p, and it is no word. -/
def NotW (w : World) (p : Addr) : Prop := ∃ u, w.cell? p = some u ∧ ∀ x, u ≠ .int .u64 x

theorem NotW.i64 {w : World} {p : Addr} {x : Int} (h : w.cell? p = some (.int .i64 x)) : NotW w p := ⟨_, h, fun _ h => by cases h⟩
theorem NotW.slice {w : World} {p : Addr} {a : Option Addr} {n c : Nat} (h : w.cell? p = some (.slice a n c)) : NotW w p := ⟨_, h, fun _ h => by cases h⟩

theorem NotW.set {w : World} {p q : Addr} {v : Value} (h : NotW w q) (hp : NotW w p) (hv : ∀ x, v ≠ .int .u64 x) : NotW (w.setCell p v) q := by
  by_cases e : q = p
  · subst e
    obtain ⟨u, hu, _⟩ := hp
    exact ⟨v, World.cell?_setCell_same _ _ _ hu, hv⟩
  · obtain ⟨u, hu, h2⟩ := h
    exact ⟨u, by rw [World.cell?_setCell_other _ _ _ _ (fun h => e h.symm)]; exact hu, h2⟩

theorem Keep64.set {a w : World} {p : Addr} (h : Keep64 a w) (hp : NotW w p) (v : Value) : Keep64 a (w.setCell p v) := by
  refine h.trans ⟨by simp [World.setCell], fun b o x hx => ?_⟩
  by_cases e : (⟨b, o, none⟩ : Addr) = p
  · subst e
    obtain ⟨u, hu, h2⟩ := hp
    rw [hu] at hx
    simp only [Option.some.injEq] at hx
    exact absurd hx (h2 x)
  · rw [World.cell?_setCell_other _ _ _ _ (fun h => e h.symm)]; exact hx

theorem notW_i64 (x y : Int) : Value.int .i64 x ≠ .int .u64 y := by intro h; cases h
theorem notW_slice (a : Option Addr) (n c : Nat) (y : Int) : Value.slice a n c ≠ .int .u64 y := by intro h; cases h

theorem Keep64.set2 {w : World} {p q : Addr} {u : Value} (hp : NotW w p) (hq : NotW w q) (hu : ∀ x, u ≠ .int .u64 x) (v : Value) : Keep64 w ((w.setCell p u).setCell q v) :=
  ((Keep64.refl w).set hp u).set (hq.set hp hu) v

theorem Keep64.set4 {w : World} {p q r s : Addr} {u v x : Value} (hp : NotW w p) (hq : NotW w q) (hr : NotW w r) (hs : NotW w s) (hu : ∀ y, u ≠ .int .u64 y) (hv : ∀ y, v ≠ .int .u64 y) (hx : ∀ y, x ≠ .int .u64 y) (t : Value) :
    Keep64 w ((((w.setCell p u).setCell q v).setCell r x).setCell s t) :=
  (Keep64.set2 hp hq hu v).trans (Keep64.set2 ((hr.set hp hu).set (hq.set hp hu) hv) ((hs.set hp hu).set (hq.set hp hu) hv) hx t)

theorem Ext.set {w W : World} {p : Addr} (h : Ext w W) (hg : w.heap.size ≤ p.block) (u : Value) : Ext w (W.setCell p u) := Below.setCell h hg u

/-- The cells of a fault that is answered. -/
structure FRes (W : World) (g : Nat) : Prop where
  lt : g < W.heap.size
  row : W.heap[g]? = some (.cells #[.int .i64 0, .int .i64 0] 31 (0, 0))
theorem FRes.ext {W W' : World} {g : Nat} (h : FRes W g) (k : Ext W W') : FRes W' g := ⟨Nat.lt_of_lt_of_le h.lt k.size, (k.block _ h.lt).trans h.row⟩
theorem FRes.c0 {W : World} {g : Nat} (h : FRes W g) : W.cell? ⟨g, 0, none⟩ = some (.int .i64 0) := by rw [cell_of_row W g 0 _ _ (0, 0) h.row]; rfl
theorem FRes.c1 {W : World} {g : Nat} (h : FRes W g) : W.cell? ⟨g, 1, none⟩ = some (.int .i64 0) := by rw [cell_of_row W g 1 _ _ (0, 0) h.row]; rfl
theorem FRes.f0 {W : World} {g : Nat} (h : FRes W g) : W.frozen? ⟨g, 0, none⟩ = false := frozen_of_row W g 0 _ _ h.row
theorem FRes.f1 {W : World} {g : Nat} (h : FRes W g) : W.frozen? ⟨g, 1, none⟩ = false := frozen_of_row W g 1 _ _ h.row

end Go.Proofs.YtfjnlopbmkimiaaGreatDoor
namespace Go.Proofs.YtfjnlopbmkimiaaGreatDoor
open Go.RowKit

theorem Ext.put {w W : World} {g o : Nat} (h : Ext w W) (hg : w.heap.size ≤ g) (u : Value) : Ext w (W.setCell ⟨g, o, none⟩ u) := Below.setCell h (p := ⟨g, o, none⟩) hg u
theorem Ext.put2 {w W : World} {g o o' : Nat} (h : Ext w W) (hg : w.heap.size ≤ g) (u v : Value) : Ext w ((W.setCell ⟨g, o, none⟩ u).setCell ⟨g, o', none⟩ v) := (h.put hg u).put hg v

theorem Of_from {w : World} (n : Int) (h1 : -9223372036854775808 ≤ n) (h2 : n ≤ 9223372036854775807) : ∀ wx : World, Ext w wx → Calls Tryz.prog 130 #[.int .i64 n] wx fun e w' => e = .returned (.agg #[.int .i64 n, .slice none 0 0]) ∧ Ext w w' ∧ Ext wx w' :=
  fun wx hx => (Of_any n h1 h2 wx).mono fun _ _ h => ⟨h.1, hx.trans h.2.2, h.2.2⟩

end Go.Proofs.YtfjnlopbmkimiaaGreatDoor
namespace Go.Proofs.YtfjnlopbmkimiaaGreatDoor
open Go.RowKit

theorem cellKeep {W w' : World} (h : Ext W w') {b o : Nat} {v : Value} (hb : b < W.heap.size) (hc : W.cell? ⟨b, o, none⟩ = some v) : w'.cell? ⟨b, o, none⟩ = some v := (h.cell (p := ⟨b, o, none⟩) hb).trans hc
theorem cellPut {w' : World} {g o' b o : Nat} {u v : Value} (hne : b ≠ g) (hc : w'.cell? ⟨b, o, none⟩ = some v) : (w'.setCell ⟨g, o', none⟩ u).cell? ⟨b, o, none⟩ = some v := by
  have hO : Only g w' (w'.setCell ⟨g, o', none⟩ u) := (Only.refl _ _).setCell _ _
  exact (World.cell?_of_block (a := ⟨b, o, none⟩) (hO.block _ hne)).trans hc

theorem Sub_from {w : World} {s1 : Int} {a1 : Option Addr} {n1 c1 : Nat} {z1 : Int} (h1 : IsInt w s1 a1 n1 c1 z1) (K : Nat) (hK : K ≤ 4194304) (hf1 : Fit K z1) : ∀ (wx : World) (s2 : Int) (a2 : Option Addr) (n2 c2 : Nat) (z2 : Int), Ext w wx → IsInt wx s2 a2 n2 c2 z2 → Fit K z2 →
    Calls Tryz.prog 86 #[.agg #[.int .i64 s1, .slice a1 n1 c1], .agg #[.int .i64 s2, .slice a2 n2 c2]] wx fun e w' =>
    ∃ (s' : Int) (a' : Option Addr) (n' c' : Nat), e = .returned (.agg #[.int .i64 s', .slice a' n' c']) ∧ IsInt w' s' a' n' c' (z1 - z2) ∧ Ext w w' ∧ Ext wx w' :=
  fun wx s2 a2 n2 c2 z2 hx h2 hf2 => (Sub_any s1 s2 a1 a2 n1 c1 n2 c2 z1 z2 wx (h1.ext hx) h2 K hK hf1 hf2).mono fun _ _ ⟨s', a', n', c', e1, e2, e3⟩ => ⟨s', a', n', c', e1, e2, hx.trans e3, e3⟩

theorem Fit.le {k : Nat} {x y : Int} (h : Fit k y) (hx : x.natAbs ≤ y.natAbs) : Fit k x := by unfold Fit at *; omega
theorem Fit.one {k : Nat} (h : 1 ≤ k) : Fit k 1 := by
  unfold Fit
  have h1 : B64 ^ 1 ≤ B64 ^ k := Nat.pow_le_pow_right B64_pos h
  rw [Nat.pow_one] at h1
  have h2 : 1 < B64 := by rw [B64_eq]; decide
  exact Nat.lt_of_lt_of_le h2 h1

end Go.Proofs.YtfjnlopbmkimiaaGreatDoor
namespace Go.Proofs.YtfjnlopbmkimiaaGreatDoor
open Go.RowKit

theorem shr_small (s : Int) (k : Nat) (h1 : -9223372036854775808 ≤ s) (h2 : s ≤ 9223372036854775807) : s / 2 ^ min k 64 = s / 2 ^ k := by
  by_cases hk : k ≤ 64
  · rw [Nat.min_eq_left hk]
  · rw [Nat.min_eq_right (by omega)]
    have hp : ∀ j : Nat, 64 ≤ j → s / 2 ^ j = if s < 0 then -1 else 0 := by
      intro j hj
      have h3 : (2 : Int) ^ 64 ≤ 2 ^ j := by
        have : (2 : Nat) ^ 64 ≤ 2 ^ j := Nat.pow_le_pow_right (by decide) hj
        exact_mod_cast this
      generalize (2 : Int) ^ j = p at *
      have h4 : (18446744073709551616 : Int) ≤ p := h3
      by_cases hs : s < 0
      · rw [if_pos hs]
        exact ((Int.ediv_emod_unique (r := s + p) (by omega)).2 ⟨by omega, by omega, by omega⟩).1
      · rw [if_neg hs]
        exact Int.ediv_eq_zero_of_lt (by omega) (by omega)
    rw [hp 64 (by omega), hp k (by omega)]

theorem neg_div (v p : Nat) (hp : 0 < p) : (-(v : Int)) / (p : Int) = if v % p = 0 then -((v / p : Nat) : Int) else -((v / p : Nat) : Int) - 1 := by
  have h := Nat.div_add_mod v p
  have hl := Nat.mod_lt v hp
  have h' : (p : Int) * ((v / p : Nat) : Int) + ((v % p : Nat) : Int) = (v : Int) := by exact_mod_cast h
  split
  · rename_i h0
    rw [h0] at h'
    refine ((Int.ediv_emod_unique (r := 0) (by omega)).2 ⟨?_, by omega, by omega⟩).1
    rw [Int.mul_neg]; omega
  · rename_i h0
    refine ((Int.ediv_emod_unique (r := (p : Int) - ((v % p : Nat) : Int)) (by omega)).2 ⟨?_, by omega, by omega⟩).1
    rw [Int.mul_sub, Int.mul_neg, Int.mul_one]; omega

/-- Where a shift there and back gives the number again, it has lost nothing. -/
theorem shl_back (s : Int) (k : Nat) (h : IntKind.i64.wrap (s * 2 ^ min k 64) / 2 ^ min k 64 = s) : IntKind.i64.wrap (s * 2 ^ min k 64) = s * 2 ^ k := by
  by_cases hk : k ≤ 63
  · have hm : min k 64 = k := Nat.min_eq_left (by omega)
    rw [hm] at h ⊢
    obtain ⟨d, hd⟩ : ∃ d, 64 = k + d := ⟨64 - k, by omega⟩
    have hp : (0 : Int) < 2 ^ k := Int.pow_pos (by decide)
    have e : (18446744073709551616 : Int) = 2 ^ k * 2 ^ d := by
      rw [← Int.pow_add, ← hd]; decide
    have hdv : IntKind.i64.wrap (s * 2 ^ k) % 2 ^ k = 0 := by
      have hw : ∃ t : Int, IntKind.i64.wrap (s * 2 ^ k) = s * 2 ^ k + 18446744073709551616 * t := by
        rw [IntKind.wrap_i64]
        refine ⟨-((s * 2 ^ k + 9223372036854775808) / 18446744073709551616), ?_⟩
        have := Int.mul_ediv_add_emod (s * 2 ^ k + 9223372036854775808) 18446744073709551616
        omega
      obtain ⟨t, ht⟩ := hw
      rw [ht, e, Int.mul_comm s, Int.mul_assoc, ← Int.mul_add]
      exact Int.mul_emod_right _ _
    have h3 := Int.mul_ediv_add_emod (IntKind.i64.wrap (s * 2 ^ k)) (2 ^ k)
    rw [h, hdv, Int.add_zero, Int.mul_comm] at h3
    exact h3.symm
  · have hm : min k 64 = 64 := Nat.min_eq_right (by omega)
    rw [hm] at h ⊢
    have hw : IntKind.i64.wrap (s * 2 ^ 64) = 0 := by
      rw [IntKind.wrap_i64]; omega
    rw [hw] at h ⊢
    have : s = 0 := by rw [← h]; decide
    rw [this, Int.zero_mul]

theorem sgn_pow (b : Bool) (x k : Nat) : sgn b (x * 2 ^ k) = sgn b x * 2 ^ k := by
  cases b <;> simp [sgn, Int.neg_mul]

theorem shiftUp_from {w : World} (k : Nat) (hk : k ≤ 1073741824) : ∀ (wx : World) (a : Option Addr) (l : List Nat) (n c : Nat), Ext w wx → l.length = n → Seg wx a l → Dig l → n ≤ c → n ≤ 1073741824 →
    Calls Tryz.prog 178 #[.slice a n c, .int .u64 k] wx fun e w' => ∃ (a' : Option Addr) (l' : List Nat) (n' c' : Nat), e = .returned (.slice a' n' c') ∧ l'.length = n' ∧ n' ≤ c' ∧ c' ≤ maxLen ∧ Seg w' a' l' ∧ Dig l' ∧ Nrm l' ∧ Hid (val l' = val l * 2 ^ k) ∧ Ext w w' ∧ Ext wx w' :=
  fun wx a l n c hx h1 h2 h3 h4 h5 => (shiftUp_any a l n c k wx h1 h2 h3 h4 h5 hk).mono fun _ _ ⟨v, k1, k2, k3⟩ => by
    obtain ⟨ao', l', c', rfl, h5, h6, h7, h8, h9, h10⟩ := k2
    exact ⟨ao', l', l'.length, c', k1, rfl, h5, h6, h7, h8, h9, h10, hx.trans k3, k3⟩

theorem shiftDown_from {w : World} (k : Nat) (hk : k ≤ 1073741824) : ∀ (wx : World) (a : Option Addr) (l : List Nat) (n c : Nat), Ext w wx → l.length = n → Seg wx a l → Dig l → n ≤ c → c ≤ maxLen → n ≤ 1073741824 →
    Calls Tryz.prog 181 #[.slice a n c, .int .u64 k] wx fun e w' => ∃ (a' : Option Addr) (l' : List Nat) (n' c' : Nat), e = .returned (.slice a' n' c') ∧ l'.length = n' ∧ n' ≤ c' ∧ c' ≤ maxLen ∧ Seg w' a' l' ∧ Dig l' ∧ Nrm l' ∧ Hid (val l' = val l / 2 ^ k) ∧ Ext w w' ∧ Ext wx w' :=
  fun wx a l n c hx h1 h2 h3 h4 h4' h5 => (shiftDown_any a l n c k wx h1 h2 h3 h4 h4' h5 hk).mono fun _ _ ⟨v, k1, k2, k3⟩ => by
    obtain ⟨ao', l', c', rfl, h5, h6, h7, h8, h9, h10⟩ := k2
    exact ⟨ao', l', l'.length, c', k1, rfl, h5, h6, h7, h8, h9, h10, hx.trans k3, k3⟩

set_option maxHeartbeats 1600000 in
set_option maxRecDepth 100000 in
theorem double_any (sm : Int) (ao : Option Addr) (n c : Nat) (z : Int) (k : Nat) (w : World) (h : IsInt w sm ao n c z) (hk : k ≤ 1073741824) (K : Nat) (hK : K ≤ 4194304) (hf : Fit K z) :
    Calls Tryz.prog 167 #[.agg #[.int .i64 sm, .slice ao n c], .int .u64 k] w fun e w' => ∃ (s' : Int) (a' : Option Addr) (n' c' : Nat), e = .returned (.agg #[.int .i64 s', .slice a' n' c']) ∧ IsInt w' s' a' n' c' (z * 2 ^ k) ∧ Ext w w' := by
  have q1 := eql_nil ao n c 0 0
  have H := hid h; have Hf := hid hf
  have hzb := h.bool
  obtain ⟨u, hu⟩ : ∃ u, IntKind.i64.wrap (sm * 2 ^ min k 64) = u := ⟨_, rfl⟩
  obtain ⟨q, hq⟩ : ∃ q, u / 2 ^ min k 64 = q := ⟨_, rfl⟩
  by_cases hsh : ao = none ∧ q = sm
  · obtain ⟨rfl, rfl⟩ := hsh
    obtain ⟨rfl, rfl, rfl, r1, r2⟩ := h.none
    have hfin := shl_back q k (by rw [hu]; exact hq)
    rw [hu] at hfin
    have hur : -9223372036854775808 ≤ u ∧ u ≤ 9223372036854775807 := by rw [← hu, IntKind.wrap_i64]; omega
    rw [← hfin]
    have hno : (none : Option Addr).isNone = true := rfl
    clear h hf hzb hfin H Hf
    go_enter Tryz.func167, Tryz.ntmps167
    go_wp2
    exact bodyPost_ret (v := .agg #[.int .i64 u, .slice none 0 0]) (by simp [results, Tryz.results167, go_sem]) rfl ⟨u, none, 0, 0, rfl, IsInt.small _ _ hur.1 hur.2, (Ext.alloc _ _).then _⟩
  · obtain ⟨bb, hbb⟩ : ∃ bb, decide (sm < 0) = bb := ⟨_, rfl⟩
    have hcase : ao.isNone = false ∨ (ao = none ∧ (q == sm) = false) := by
      rcases ao with _ | a
      · right; refine ⟨rfl, ?_⟩; rw [beq_eq_false_iff_ne]; intro e; exact hsh ⟨rfl, e⟩
      · left; rfl
    rw [hbb] at hzb
    have Hzb := hid hzb; have Hbb := hid hbb
    clear hsh h hf hzb hbb
    rcases hcase with hno | ⟨rfl, hno⟩
    all_goals
      go_enter Tryz.func167, Tryz.ntmps167
      go_wp2_with fail
    · have hbx := boxes1 w (.int .i64 sm) (.slice ao n c)
      generalize (w.alloc (.cells #[.int .i64 sm, .slice ao n c] 74)).alloc (.cells #[.int .i64 0, .slice none 0 0] 74) = W0 at *
      have hB : w.heap.size < W0.heap.size := by have := hbx.size; omega
      have hnn := negative_from (w := W0) sm (.slice ao n c)
      rw [Hbb.out] at hnn
      have Hn := hid hnn; have Hw := hid (words_from (H.out.ext hbx.ext)); have Hsu := hid (shiftUp_from (w := W0) k hk); have Hfw := hid (fromWords_from (w := W0) bb)
      have hE0d : Ext W0 W0.drew := Below.drew (Ext.refl _)
      have c0 := hbx.c0; have c1 := hbx.c1
      clear hnn
      go_region_held3 (fun w' => w'.cell? ⟨w.heap.size, 0, none⟩ = some (.int .i64 sm) ∧ w'.cell? ⟨w.heap.size, 1, none⟩ = some (.slice ao n c))
        (refine ⟨?_, ?_⟩ <;> (repeat (refine cellPut (by omega) ?_)) <;> exact cellKeep (W := W0) (by assumption) (by omega) (by assumption))
        (first | (go_at_call 95; refine (Hn.out _ (by assumption)).mono ?_; rintro e w1 ⟨rfl, he1, hx1⟩) | (go_at_call 124; refine (Hw.out _ (by assumption)).mono ?_; rintro e w2 ⟨a2, l2, n2, c2, rfl, hl2, hn2, hc2, hs2, hd2, hm2, Hv2, he2, hx2⟩; have Hl2 := hid hl2; clear hl2) | (go_at_call 178; refine (Hsu.out _ a2 l2 n2 c2 (by assumption) Hl2.out (hs2.ext (Ext.refl _)) hd2 hn2 (by have := Hf.out.len hm2 Hv2.out; have := Hl2.out; omega)).mono ?_; rintro e w3 ⟨a3, l3, n3, c3, rfl, hl3, hn3, hc3, hs3, hd3, hm3, Hv3, he3, hx3⟩; have Hl3 := hid hl3; clear hl3) | (go_at_call 149; refine (Hfw.out _ a3 l3 n3 c3 (by assumption) Hl3.out hs3 hd3 hn3 hc3).mono ?_; rintro e w4 ⟨s4, a4, n4, c4, rfl, hI4, he4, hx4⟩; have hr4 := hbx.res.ext he4; have k0 := hr4.c0; have k1 := hr4.c1; have g0 := hr4.f0; have g1 := hr4.f1))
      go_wp2_with fail
      exact bodyPost_ret (v := .agg #[.int .i64 s4, .slice a4 n4 c4]) (by simp [results, Tryz.results167, go_sem, k0, k1]) rfl ⟨s4, a4, n4, c4, rfl, (hI4.cast (by rw [Hv3.out, Hv2.out, sgn_pow, ← Hzb.out])).keep64 (Keep64.set2 (.i64 k0) (.slice k1) (notW_i64 _) _), (hbx.ext.trans he4).put2 (by omega) _ _⟩
    · have hbx := boxes1 w (.int .i64 sm) (.slice none n c)
      generalize (w.alloc (.cells #[.int .i64 sm, .slice none n c] 74)).alloc (.cells #[.int .i64 0, .slice none 0 0] 74) = W0 at *
      have hB : w.heap.size < W0.heap.size := by have := hbx.size; omega
      have hnn := negative_from (w := W0) sm (.slice none n c)
      rw [Hbb.out] at hnn
      have Hn := hid hnn; have Hw := hid (words_from (H.out.ext hbx.ext)); have Hsu := hid (shiftUp_from (w := W0) k hk); have Hfw := hid (fromWords_from (w := W0) bb)
      have hE0d : Ext W0 W0.drew := Below.drew (Ext.refl _)
      have c0 := hbx.c0; have c1 := hbx.c1
      clear hnn
      go_region_held3 (fun w' => w'.cell? ⟨w.heap.size, 0, none⟩ = some (.int .i64 sm) ∧ w'.cell? ⟨w.heap.size, 1, none⟩ = some (.slice none n c))
        (refine ⟨?_, ?_⟩ <;> (repeat (refine cellPut (by omega) ?_)) <;> exact cellKeep (W := W0) (by assumption) (by omega) (by assumption))
        (first | (go_at_call 95; refine (Hn.out _ (by assumption)).mono ?_; rintro e w1 ⟨rfl, he1, hx1⟩) | (go_at_call 124; refine (Hw.out _ (by assumption)).mono ?_; rintro e w2 ⟨a2, l2, n2, c2, rfl, hl2, hn2, hc2, hs2, hd2, hm2, Hv2, he2, hx2⟩; have Hl2 := hid hl2; clear hl2) | (go_at_call 178; refine (Hsu.out _ a2 l2 n2 c2 (by assumption) Hl2.out (hs2.ext (Ext.refl _)) hd2 hn2 (by have := Hf.out.len hm2 Hv2.out; have := Hl2.out; omega)).mono ?_; rintro e w3 ⟨a3, l3, n3, c3, rfl, hl3, hn3, hc3, hs3, hd3, hm3, Hv3, he3, hx3⟩; have Hl3 := hid hl3; clear hl3) | (go_at_call 149; refine (Hfw.out _ a3 l3 n3 c3 (by assumption) Hl3.out hs3 hd3 hn3 hc3).mono ?_; rintro e w4 ⟨s4, a4, n4, c4, rfl, hI4, he4, hx4⟩; have hr4 := hbx.res.ext he4; have k0 := hr4.c0; have k1 := hr4.c1; have g0 := hr4.f0; have g1 := hr4.f1))
      go_wp2_with fail
      exact bodyPost_ret (v := .agg #[.int .i64 s4, .slice a4 n4 c4]) (by simp [results, Tryz.results167, go_sem, k0, k1]) rfl ⟨s4, a4, n4, c4, rfl, (hI4.cast (by rw [Hv3.out, Hv2.out, sgn_pow, ← Hzb.out])).keep64 (Keep64.set2 (.i64 k0) (.slice k1) (notW_i64 _) _), (hbx.ext.trans he4).put2 (by omega) _ _⟩

end Go.Proofs.YtfjnlopbmkimiaaGreatDoor
