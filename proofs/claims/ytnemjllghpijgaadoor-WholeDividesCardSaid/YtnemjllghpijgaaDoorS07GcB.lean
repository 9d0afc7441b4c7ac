/-
  divTowardsNought. Div: quotient and rest. withoutSign, halve, double.
-/
import Derived.Test.YtnemjllghpijgaaDoorProg
import Derived.Test.YtnemjllghpijgaaDoorRows
import Derived.BigQuiet
import Derived.Deep.Cut
import Derived.Deep.QuietTactic
import Derived.Deep.RegionHeld3
import Derived.Laws.Bits64b
import Derived.Laws.CopyOwn
import Derived.Laws.ResultCell
import Derived.Lib.BitFns
import Derived.Lib.ItoaNum
import Derived.Lib.Strings
import Derived.Lib.TrailingZeros
import Derived.Shelf.Bits.Mul64
import Derived.Shelf.LaysM
import Derived.Shelf.Small.Bits
import Derived.Shelf.Small.Wraps
import Derived.Shelf.Spec.BitsCarry
import Derived.Shelf.Spec.TrailingZeros
import Derived.Shelf.Strconv.Itoa0
import Derived.Shelf.Strconv.Itoa1
import Derived.Shelf.Strconv.Itoa2
import Derived.Shelf.Strconv.Itoa3
import Derived.WalkKit
import Derived.WalkLawsBesides
import Derived.WalkSpells
import Derived.Test.YtnemjllghpijgaaDoorS00Mem
import Derived.Test.YtnemjllghpijgaaDoorShelf
import Derived.Test.YtnemjllghpijgaaDoorS02ShiftI
import Derived.Test.YtnemjllghpijgaaDoorS03GuessD
import Derived.Test.YtnemjllghpijgaaDoorS04IntB
import Derived.Test.YtnemjllghpijgaaDoorS05IntD
import Derived.Test.YtnemjllghpijgaaDoorS06ParE
namespace Go.Proofs.YtnemjllghpijgaaDoor
open Go.RowKit

theorem tdiv_range (a b : Int) (hb0 : b ≠ 0) (hb1 : b ≠ -1) (h1 : -9223372036854775808 ≤ a) (h2 : a ≤ 9223372036854775807) : -9223372036854775808 ≤ a.tdiv b ∧ a.tdiv b ≤ 9223372036854775807 := by
  have hn : (a.tdiv b).natAbs = a.natAbs / b.natAbs := Int.natAbs_tdiv a b
  by_cases hb : b = 1
  · subst hb; rw [Int.tdiv_one]; exact ⟨h1, h2⟩
  · have h3 : 2 ≤ b.natAbs := by omega
    have h4 : a.natAbs / b.natAbs ≤ a.natAbs / 2 := Nat.div_le_div_left h3 (by omega)
    omega

theorem tmod_range (a b : Int) (hb0 : b ≠ 0) (h1 : -9223372036854775808 ≤ b) (h2 : b ≤ 9223372036854775807) : -9223372036854775808 ≤ a.tmod b ∧ a.tmod b ≤ 9223372036854775807 := by
  have hn : (a.tmod b).natAbs = a.natAbs % b.natAbs := Int.natAbs_tmod a b
  have h3 : a.natAbs % b.natAbs < b.natAbs := Nat.mod_lt _ (by omega)
  omega

theorem tdiv_sgn (b1 b2 : Bool) (x y : Nat) : (sgn b1 x).tdiv (sgn b2 y) = sgn (!(b1 == b2)) (x / y) := by
  cases b1 <;> cases b2 <;> simp [sgn, Int.neg_tdiv, Int.tdiv_neg]
theorem tmod_sgn (b1 b2 : Bool) (x y : Nat) : (sgn b1 x).tmod (sgn b2 y) = sgn b1 (x % y) := by
  cases b1 <;> cases b2 <;> simp [sgn, Int.neg_tmod, Int.tmod_neg] <;> rfl

/-- The world behind the boxing of two numbers and the room for two results. -/
structure Boxes22 (w W : World) (x1 y1 x2 y2 : Value) : Prop where
  ext : Ext w W
  size : W.heap.size = w.heap.size + 4
  c0 : W.cell? ⟨w.heap.size, 0, none⟩ = some x1
  c1 : W.cell? ⟨w.heap.size, 1, none⟩ = some y1
  d0 : W.cell? ⟨w.heap.size + 1, 0, none⟩ = some x2
  d1 : W.cell? ⟨w.heap.size + 1, 1, none⟩ = some y2
  res : Res W (w.heap.size + 1 + 1)
  res' : Res W (w.heap.size + 1 + 1 + 1)

theorem boxes22 (w : World) (x1 y1 x2 y2 : Value) : Boxes22 w ((((w.alloc (.cells #[x1, y1] 24)).alloc (.cells #[x2, y2] 24)).alloc (.cells #[.int .i64 0, .slice none 0 0] 24)).alloc (.cells #[.int .i64 0, .slice none 0 0] 24)) x1 y1 x2 y2 := by
  have hb := boxes2 w x1 y1 x2 y2
  generalize hW : ((w.alloc (.cells #[x1, y1] 24)).alloc (.cells #[x2, y2] 24)).alloc (.cells #[.int .i64 0, .slice none 0 0] 24) = W at *
  have he := Ext.alloc W (.cells #[.int .i64 0, .slice none 0 0] 24)
  have hs := hb.size
  refine ⟨hb.ext.then _, by simp [hs], (he.cell (p := ⟨w.heap.size, 0, none⟩) (by show w.heap.size < _; omega)).trans hb.c0, (he.cell (p := ⟨w.heap.size, 1, none⟩) (by show w.heap.size < _; omega)).trans hb.c1, (he.cell (p := ⟨w.heap.size + 1, 0, none⟩) (by show w.heap.size + 1 < _; omega)).trans hb.d0, (he.cell (p := ⟨w.heap.size + 1, 1, none⟩) (by show w.heap.size + 1 < _; omega)).trans hb.d1, hb.res.ext he, ⟨by simp [hs], ?_⟩⟩
  have := heap_alloc_new W (.cells #[.int .i64 0, .slice none 0 0] 24)
  rw [hs] at this
  exact this

theorem Ext.put {w W : World} {g o : Nat} (h : Ext w W) (hg : w.heap.size ≤ g) (u : Value) : Ext w (W.setCell ⟨g, o, none⟩ u) := Below.setCell h (p := ⟨g, o, none⟩) hg u
theorem Ext.put2 {w W : World} {g o o' : Nat} (h : Ext w W) (hg : w.heap.size ≤ g) (u v : Value) : Ext w ((W.setCell ⟨g, o, none⟩ u).setCell ⟨g, o', none⟩ v) := (h.put hg u).put hg v

/-- Four cells stay while a later block is written. -/
theorem keepS {w' : World} {B g o : Nat} {u x y x2 y2 : Value} (hg : B + 1 < g) (h : w'.cell? ⟨B, 0, none⟩ = some x ∧ w'.cell? ⟨B, 1, none⟩ = some y ∧ w'.cell? ⟨B + 1, 0, none⟩ = some x2 ∧ w'.cell? ⟨B + 1, 1, none⟩ = some y2) :
    (w'.setCell ⟨g, o, none⟩ u).cell? ⟨B, 0, none⟩ = some x ∧ (w'.setCell ⟨g, o, none⟩ u).cell? ⟨B, 1, none⟩ = some y ∧ (w'.setCell ⟨g, o, none⟩ u).cell? ⟨B + 1, 0, none⟩ = some x2 ∧ (w'.setCell ⟨g, o, none⟩ u).cell? ⟨B + 1, 1, none⟩ = some y2 := by
  have hO : Only g w' (w'.setCell ⟨g, o, none⟩ u) := (Only.refl _ _).setCell _ _
  exact ⟨(World.cell?_of_block (a := ⟨B, 0, none⟩) (hO.block _ (by simp only; omega))).trans h.1, (World.cell?_of_block (a := ⟨B, 1, none⟩) (hO.block _ (by simp only; omega))).trans h.2.1, (World.cell?_of_block (a := ⟨B + 1, 0, none⟩) (hO.block _ (by simp only; omega))).trans h.2.2.1, (World.cell?_of_block (a := ⟨B + 1, 1, none⟩) (hO.block _ (by simp only; omega))).trans h.2.2.2⟩

theorem len_pos {l : List Nat} {z : Int} (hv : val l = z.natAbs) (hz : z ≠ 0) : 1 ≤ l.length := by
  cases l with
  | nil => simp [val] at hv; omega
  | cons x r => simp

theorem Of_from {w : World} (n : Int) (h1 : -9223372036854775808 ≤ n) (h2 : n ≤ 9223372036854775807) : ∀ wx : World, Ext w wx → Calls Tryd.prog 21 #[.int .i64 n] wx fun e w' => e = .returned (.agg #[.int .i64 n, .slice none 0 0]) ∧ Ext w w' ∧ Ext wx w' :=
  fun wx hx => (Of_any n h1 h2 wx).mono fun _ _ h => ⟨h.1, hx.trans h.2.2, h.2.2⟩

set_option maxHeartbeats 1600000 in
set_option maxRecDepth 100000 in
theorem divTowards_any (s1 s2 : Int) (a1 a2 : Option Addr) (n1 c1 n2 c2 : Nat) (z1 z2 : Int) (w : World) (h1 : IsInt w s1 a1 n1 c1 z1) (h2 : IsInt w s2 a2 n2 c2 z2) (K : Nat) (hK : K ≤ 4194304) (hf1 : Fit K z1) (hf2 : Fit K z2) (hz0 : z2 ≠ 0) :
    Calls Tryd.prog 23 #[.agg #[.int .i64 s1, .slice a1 n1 c1], .agg #[.int .i64 s2, .slice a2 n2 c2]] w fun e w' => ∃ (s3 : Int) (a3 : Option Addr) (n3 c3 : Nat) (s4 : Int) (a4 : Option Addr) (n4 c4 : Nat), e = .returned (.tuple #[.agg #[.int .i64 s3, .slice a3 n3 c3], .agg #[.int .i64 s4, .slice a4 n4 c4]]) ∧ IsInt w' s3 a3 n3 c3 (z1.tdiv z2) ∧ IsInt w' s4 a4 n4 c4 (z1.tmod z2) ∧ Ext w w' := by
  have Hf1 := hid hf1; have Hf2 := hid hf2; have H1 := hid h1; have H2 := hid h2
  have hz1 := h1.bool; have hz2 := h2.bool
  clear hf1 hf2 h1 h2
  by_cases hsh : (a1 = none ∧ a2 = none) ∧ s2 ≠ -1
  · obtain ⟨⟨rfl, rfl⟩, hs2⟩ := hsh
    obtain ⟨rfl, rfl, rfl, r1, r2⟩ := H1.out.none
    obtain ⟨rfl, rfl, rfl, r3, r4⟩ := H2.out.none
    clear hz1 hz2
    have hb2 : (s2 != -1) = true := by rw [bne_iff_ne]; exact hs2
    obtain ⟨q1, q2⟩ := tdiv_range s1 s2 hz0 hs2 r1 r2
    obtain ⟨q3, q4⟩ := tmod_range s1 s2 hz0 r3 r4
    obtain ⟨q, hq⟩ : ∃ q, s1.tdiv s2 = q := ⟨_, rfl⟩
    obtain ⟨r, hr⟩ : ∃ r, s1.tmod s2 = r := ⟨_, rfl⟩
    rw [hq] at q1 q2
    rw [hr] at q3 q4
    have hwq : IntKind.i64.wrap q = q := by rw [IntKind.wrap_i64]; omega
    have hwr : IntKind.i64.wrap r = r := by rw [IntKind.wrap_i64]; omega
    have hb0 : (s2 == 0) = false := by rw [beq_eq_false_iff_ne]; exact hz0
    rw [hq, hr]
    clear hs2
    go_enter Tryd.func23, Tryd.ntmps23
    go_wp2_with fail
    have hbx := boxes22 w (.int .i64 s1) (.slice none 0 0) (.int .i64 s2) (.slice none 0 0)
    generalize (((w.alloc (.cells #[.int .i64 s1, .slice none 0 0] 24)).alloc (.cells #[.int .i64 s2, .slice none 0 0] 24)).alloc (.cells #[.int .i64 0, .slice none 0 0] 24)).alloc (.cells #[.int .i64 0, .slice none 0 0] 24) = W0 at *
    have hB : w.heap.size + 1 < W0.heap.size := by have := hbx.size; omega
    refine (short_yes _ _ _ _ _ _ _).mono ?_
    rintro e we ⟨rfl, hxe⟩
    obtain ⟨y0, y1, y2, y3⟩ := keep4 hxe hB hbx.c0 hbx.c1 hbx.d0 hbx.d1
    have hBe : w.heap.size + 1 < we.heap.size := by have := hxe.size; omega
    have heed : Ext we we.drew := Below.drew (Ext.refl _)
    have Hq := hid (Of_from (w := we) q q1 q2); have Hr := hid (Of_from (w := we) r q3 q4)
    go_wp2_with fail
    go_region_held3 (fun w' => w'.cell? ⟨w.heap.size, 0, none⟩ = some (.int .i64 s1) ∧ w'.cell? ⟨w.heap.size, 1, none⟩ = some (.slice none 0 0) ∧ w'.cell? ⟨w.heap.size + 1, 0, none⟩ = some (.int .i64 s2) ∧ w'.cell? ⟨w.heap.size + 1, 1, none⟩ = some (.slice none 0 0)) (first | exact keep4 (by assumption) hBe y0 y1 y2 y3 | exact keepS (by omega) (keepS (by omega) (keep4 (by assumption) hBe y0 y1 y2 y3)) | exact keepS (by omega) (keepS (by omega) (keepS (by omega) (keepS (by omega) (keep4 (by assumption) hBe y0 y1 y2 y3)))))
      (first | (go_at_call_of 21 q; refine (Hq.out _ (by assumption)).mono ?_; rintro e wa ⟨rfl, hea, hxa⟩) | (go_at_call_of 21 r; refine (Hr.out _ (by assumption)).mono ?_; rintro e wb ⟨rfl, heb, hxb⟩; have hr4 := hbx.res.ext (hxe.trans heb); have hr5 := hbx.res'.ext (hxe.trans heb); have k0 := hr4.c0; have k1 := hr4.c1; have g0 := hr4.f0; have g1 := hr4.f1; have k2 := hr5.c0; have k3 := hr5.c1; have g2 := hr5.f0; have g3 := hr5.f1))
    all_goals
      go_wp2_with fail
      exact bodyPost_ret (v := .tuple #[.agg #[.int .i64 q, .slice none 0 0], .agg #[.int .i64 r, .slice none 0 0]]) (by simp [results, Tryd.results23, go_sem, k0, k1, k2, k3]) rfl
        ⟨q, none, 0, 0, r, none, 0, 0, rfl, IsInt.small _ _ q1 q2, IsInt.small _ _ q3 q4, (((hbx.ext.trans hxe).trans heb).put2 (by omega) _ _).put2 (by omega) _ _⟩
  · have hcase : (¬ (a1 = none ∧ a2 = none)) ∨ (a1 = none ∧ a2 = none ∧ s2 = -1) := by
      by_cases h : a1 = none ∧ a2 = none
      · right
        refine ⟨h.1, h.2, ?_⟩
        exact Decidable.byContradiction fun k => hsh ⟨h, k⟩
      · exact Or.inl h
    clear hsh
    obtain ⟨b1, hb1⟩ : ∃ b, decide (s1 < 0) = b := ⟨_, rfl⟩
    obtain ⟨b2, hb2⟩ : ∃ b, decide (s2 < 0) = b := ⟨_, rfl⟩
    have hn1 := fun w0 : World => negative_from (w := w0) s1 (.slice a1 n1 c1); have hn2 := fun w0 : World => negative_from (w := w0) s2 (.slice a2 n2 c2)
    rw [hb1] at hz1; rw [hb2] at hz2
    rw [hb1] at hn1; rw [hb2] at hn2
    have Hn1 := hid hn1; have Hn2 := hid hn2; have Hz1 := hid hz1; have Hz2 := hid hz2; have Hz0 := hid hz0
    clear hn1 hn2 hb1 hb2 hz1 hz2 hz0
    have Hsh : Hid (∀ wx : World, Calls Tryd.prog 48 #[.agg #[.int .i64 s1, .slice a1 n1 c1], .agg #[.int .i64 s2, .slice a2 n2 c2]] wx fun e w' => ∃ bb : Bool, e = .returned (.bool bb) ∧ (bb = true → s2 = -1) ∧ Ext wx w') := by
      intro wx
      rcases hcase with h | ⟨rfl, rfl, rfl⟩
      · exact (short_no s1 s2 a1 a2 n1 c1 n2 c2 wx h).mono fun _ _ k => ⟨false, k.1, (fun h => absurd h (by decide)), k.2⟩
      · exact (short_yes s1 (-1) n1 c1 n2 c2 wx).mono fun _ _ k => ⟨true, k.1, (fun _ => rfl), k.2⟩
    clear hcase
    go_enter Tryd.func23, Tryd.ntmps23
    go_wp2_with fail
    have hbx := boxes22 w (.int .i64 s1) (.slice a1 n1 c1) (.int .i64 s2) (.slice a2 n2 c2)
    generalize (((w.alloc (.cells #[.int .i64 s1, .slice a1 n1 c1] 24)).alloc (.cells #[.int .i64 s2, .slice a2 n2 c2] 24)).alloc (.cells #[.int .i64 0, .slice none 0 0] 24)).alloc (.cells #[.int .i64 0, .slice none 0 0] 24) = W0 at *
    have hB : w.heap.size + 1 < W0.heap.size := by have := hbx.size; omega
    refine (Hsh.out _).mono ?_
    rintro e we ⟨bb, rfl, hbb, hxe⟩
    obtain ⟨y0, y1, y2, y3⟩ := keep4 hxe hB hbx.c0 hbx.c1 hbx.d0 hbx.d1
    have hBe : w.heap.size + 1 < we.heap.size := by have := hxe.size; omega
    have Hw1 := hid (words_from (H1.out.ext (hbx.ext.trans hxe))); have Hw2 := hid (words_from (H2.out.ext (hbx.ext.trans hxe)))
    have heed : Ext we we.drew := Below.drew (Ext.refl _)
    cases bb
    case' true =>
      have hb2 : (s2 != -1) = false := by rw [hbb rfl]; rfl
    all_goals
      clear hbb
      go_wp2_with fail
      go_region_held3 (fun w' => w'.cell? ⟨w.heap.size, 0, none⟩ = some (.int .i64 s1) ∧ w'.cell? ⟨w.heap.size, 1, none⟩ = some (.slice a1 n1 c1) ∧ w'.cell? ⟨w.heap.size + 1, 0, none⟩ = some (.int .i64 s2) ∧ w'.cell? ⟨w.heap.size + 1, 1, none⟩ = some (.slice a2 n2 c2)) (exact keep4 (by assumption) hBe y0 y1 y2 y3)
        (first | (go_at_call_of 50 s1; refine (Hw1.out _ (by assumption)).mono ?_; rintro e wa ⟨p1, l1, m1, e1, rfl, hl1, hm1, he1, hsg1', hd1, hr1, Hv1, hea, hxa⟩; have Hl1 := hid hl1; clear hl1) | (go_at_call_of 50 a2; refine (Hw2.out _ (by assumption)).mono ?_; rintro e wb ⟨p2, l2, m2, e2, rfl, hl2, hm2, he2, hsg2', hd2, hr2, Hv2, heb, hxb⟩; have Hl2 := hid hl2; clear hl2) | (go_at_call 49; refine (divWords_any p1 p2 l1 l2 m2 m1 e1 e2 wb Hl1.out Hl2.out (hsg1'.ext hxb) hsg2' hd1 hd2 hr1 hr2 hm1 hm2 he1 (by rw [← Hl2.out]; exact len_pos Hv2.out Hz0.out) (by have := Hf1.out.len hr1 Hv1.out; have := Hl1.out; omega) (by have := Hf2.out.len hr2 Hv2.out; have := Hl2.out; omega)).mono ?_; rintro e wg ⟨v1, v2, rfl, hnq, hnr, hxg⟩; have heg := heb.trans hxg))
      obtain ⟨p3, l3, m3, e3, rfl, hl3, hm3, he3, hs3, hd3, hr3, hv3⟩ := hnq.named
      obtain ⟨p4, l4, m4, e4, rfl, hl4, hm4, he4, hs4, hd4, hr4, hv4⟩ := hnr.named
      have Hl3 := hid hl3; have Hl4 := hid hl4; have Hv3 := hid hv3; have Hv4 := hid hv4
      obtain ⟨x0, x1, x2, x3⟩ := keep4 heg hBe y0 y1 y2 y3
      have hBg : w.heap.size + 1 < wg.heap.size := by have := heg.size; omega
      have hegd : Ext wg wg.drew := Below.drew (Ext.refl _)
      have resA := hbx.res.ext (hxe.trans heg); have resB := hbx.res'.ext (hxe.trans heg)
      have HEg := hid ((hbx.ext.trans hxe).trans heg)
      have Hm1 := hid (Hn1.out wg); have Hm2 := hid (Hn2.out wg)
      have Hfq := hid (fromWords_from (w := wg) (!(b1 == b2))); have Hfr := hid (fromWords_from (w := wg) b1)
      clear y0 y1 y2 y3 hea heb heg hxa hxb hxg heed hnq hnr hl3 hl4 hv3 hv4
      go_wp2_with fail
      go_region_held3 (fun w' => w'.cell? ⟨w.heap.size, 0, none⟩ = some (.int .i64 s1) ∧ w'.cell? ⟨w.heap.size, 1, none⟩ = some (.slice a1 n1 c1) ∧ w'.cell? ⟨w.heap.size + 1, 0, none⟩ = some (.int .i64 s2) ∧ w'.cell? ⟨w.heap.size + 1, 1, none⟩ = some (.slice a2 n2 c2)) (first | exact keep4 (by assumption) hBg x0 x1 x2 x3 | exact keepS (by omega) (keepS (by omega) (keep4 (by assumption) hBg x0 x1 x2 x3)) | exact keepS (by omega) (keepS (by omega) (keepS (by omega) (keepS (by omega) (keep4 (by assumption) hBg x0 x1 x2 x3)))))
        (first | (go_at_call_of 24 s1; refine (Hm1.out _ (by assumption)).mono ?_; rintro e wc ⟨rfl, hec, hxc⟩) | (go_at_call_of 24 a2; refine (Hm2.out _ (by assumption)).mono ?_; rintro e wd ⟨rfl, hed, hxd⟩) | (go_at_call_of 46 p3; refine (Hfq.out _ p3 l3 m3 e3 (by assumption) Hl3.out (hs3.ext (by assumption)) hd3 hm3 he3).mono ?_; rintro e wp ⟨s5, a5, n5, c5, rfl, hI5, hep, hxp⟩) | (go_at_call_of 46 p4; refine (Hfr.out _ p4 l4 m4 e4 (by assumption) Hl4.out (hs4.ext (by assumption)) hd4 hm4 he4).mono ?_; rintro e wq ⟨s6, a6, n6, c6, rfl, hI6, heq, hxq⟩; have hr4' := resA.ext heq; have hr5' := resB.ext heq; have k0 := hr4'.c0; have k1 := hr4'.c1; have g0 := hr4'.f0; have g1 := hr4'.f1; have k2 := hr5'.c0; have k3 := hr5'.c1; have g2 := hr5'.f0; have g3 := hr5'.f1))
      all_goals
        go_wp2_with fail
        have hkk := Keep64.set4 (w := wq) (.i64 k0) (.slice k1) (.i64 k2) (.slice k3) (notW_i64 s5) (notW_slice a5 n5 c5) (notW_i64 s6) (.slice a6 n6 c6)
        exact bodyPost_ret (v := .tuple #[.agg #[.int .i64 s5, .slice a5 n5 c5], .agg #[.int .i64 s6, .slice a6 n6 c6]]) (by simp [results, Tryd.results23, go_sem, k0, k1, k2, k3]) rfl
          ⟨s5, a5, n5, c5, s6, a6, n6, c6, rfl, ((hI5.ext (hxc.trans hxq)).cast (by rw [Hz1.out, Hz2.out, tdiv_sgn, Hv3.out, Hv1.out, Hv2.out])).keep64 hkk, (hI6.cast (by rw [Hz1.out, Hz2.out, tmod_sgn, Hv4.out, Hv1.out, Hv2.out])).keep64 hkk, ((HEg.out.trans heq).put2 (by omega) _ _).put2 (by omega) _ _⟩

end Go.Proofs.YtnemjllghpijgaaDoor
namespace Go.Proofs.YtnemjllghpijgaaDoor
open Go.RowKit

theorem cellKeep {W w' : World} (h : Ext W w') {b o : Nat} {v : Value} (hb : b < W.heap.size) (hc : W.cell? ⟨b, o, none⟩ = some v) : w'.cell? ⟨b, o, none⟩ = some v := (h.cell (p := ⟨b, o, none⟩) hb).trans hc
theorem cellPut {w' : World} {g o' b o : Nat} {u v : Value} (hne : b ≠ g) (hc : w'.cell? ⟨b, o, none⟩ = some v) : (w'.setCell ⟨g, o', none⟩ u).cell? ⟨b, o, none⟩ = some v := by
  have hO : Only g w' (w'.setCell ⟨g, o', none⟩ u) := (Only.refl _ _).setCell _ _
  exact (World.cell?_of_block (a := ⟨b, o, none⟩) (hO.block _ hne)).trans hc

theorem Sub_from {w : World} {s1 : Int} {a1 : Option Addr} {n1 c1 : Nat} {z1 : Int} (h1 : IsInt w s1 a1 n1 c1 z1) (K : Nat) (hK : K ≤ 4194304) (hf1 : Fit K z1) : ∀ (wx : World) (s2 : Int) (a2 : Option Addr) (n2 c2 : Nat) (z2 : Int), Ext w wx → IsInt wx s2 a2 n2 c2 z2 → Fit K z2 →
    Calls Tryd.prog 26 #[.agg #[.int .i64 s1, .slice a1 n1 c1], .agg #[.int .i64 s2, .slice a2 n2 c2]] wx fun e w' =>
    ∃ (s' : Int) (a' : Option Addr) (n' c' : Nat), e = .returned (.agg #[.int .i64 s', .slice a' n' c']) ∧ IsInt w' s' a' n' c' (z1 - z2) ∧ Ext w w' ∧ Ext wx w' :=
  fun wx s2 a2 n2 c2 z2 hx h2 hf2 => (Sub_any s1 s2 a1 a2 n1 c1 n2 c2 z1 z2 wx (h1.ext hx) h2 K hK hf1 hf2).mono fun _ _ ⟨s', a', n', c', e1, e2, e3⟩ => ⟨s', a', n', c', e1, e2, hx.trans e3, e3⟩

/-- q and r are what division with rest tells of a and b. -/
structure IsDiv (a b q r : Int) : Prop where
  eq : a = q * b + r
  pos : 0 ≤ r
  lt : r < b.natAbs
  le : q.natAbs ≤ a.natAbs

theorem tdiv_le (a b : Int) : (a.tdiv b).natAbs ≤ a.natAbs := by
  rw [Int.natAbs_tdiv]; exact Nat.div_le_self _ _

theorem isDiv_pos {a b : Int} (hb : b ≠ 0) (h : ¬ a.tmod b < 0) : IsDiv a b (a.tdiv b) (a.tmod b) := by
  refine ⟨?_, by omega, ?_, tdiv_le a b⟩
  · have := Int.mul_tdiv_add_tmod a b
    rw [Int.mul_comm (a.tdiv b) b]; omega
  · have hn : (a.tmod b).natAbs = a.natAbs % b.natAbs := Int.natAbs_tmod a b
    have h3 : a.natAbs % b.natAbs < b.natAbs := Nat.mod_lt _ (by omega)
    omega

theorem div_step_le {a b : Int} (hb : b ≠ 0) (h : a.tmod b < 0) : (a.tdiv b).natAbs + 1 ≤ a.natAbs := by
  have h1 : (a.tdiv b).natAbs = a.natAbs / b.natAbs := Int.natAbs_tdiv a b
  have h2 : (a.tmod b).natAbs = a.natAbs % b.natAbs := Int.natAbs_tmod a b
  have h3 := Nat.div_add_mod a.natAbs b.natAbs
  have h4 : a.natAbs / b.natAbs ≤ b.natAbs * (a.natAbs / b.natAbs) := Nat.le_mul_of_pos_left _ (by omega)
  omega

theorem isDiv_neg {a b : Int} (h : a.tmod b < 0) (hb : b < 0) : IsDiv a b (a.tdiv b + 1) (a.tmod b - b) := by
  have hn : (a.tmod b).natAbs = a.natAbs % b.natAbs := Int.natAbs_tmod a b
  have h3 : a.natAbs % b.natAbs < b.natAbs := Nat.mod_lt _ (by omega)
  have h4 := div_step_le (by omega) h
  refine ⟨?_, by omega, by omega, by omega⟩
  have := Int.mul_tdiv_add_tmod a b
  rw [Int.add_mul, Int.mul_comm (a.tdiv b) b]; omega

theorem isDiv_plus {a b : Int} (h : a.tmod b < 0) (hb : 0 < b) : IsDiv a b (a.tdiv b - 1) (a.tmod b + b) := by
  have hn : (a.tmod b).natAbs = a.natAbs % b.natAbs := Int.natAbs_tmod a b
  have h3 : a.natAbs % b.natAbs < b.natAbs := Nat.mod_lt _ (by omega)
  have h4 := div_step_le (by omega) h
  refine ⟨?_, by omega, by omega, by omega⟩
  have := Int.mul_tdiv_add_tmod a b
  rw [Int.sub_mul, Int.mul_comm (a.tdiv b) b]; omega

theorem Fit.le {k : Nat} {x y : Int} (h : Fit k y) (hx : x.natAbs ≤ y.natAbs) : Fit k x := by unfold Fit at *; omega
theorem Fit.one {k : Nat} (h : 1 ≤ k) : Fit k 1 := by
  unfold Fit
  have h1 : B64 ^ 1 ≤ B64 ^ k := Nat.pow_le_pow_right B64_pos h
  rw [Nat.pow_one] at h1
  have h2 : 1 < B64 := by rw [B64_eq]; decide
  exact Nat.lt_of_lt_of_le h2 h1

/-- The world behind the boxing of two numbers and the room for two numbers and a fault. -/
structure BoxesD (w W : World) (x1 y1 x2 y2 : Value) : Prop where
  ext : Ext w W
  size : W.heap.size = w.heap.size + 5
  c0 : W.cell? ⟨w.heap.size, 0, none⟩ = some x1
  c1 : W.cell? ⟨w.heap.size, 1, none⟩ = some y1
  d0 : W.cell? ⟨w.heap.size + 1, 0, none⟩ = some x2
  d1 : W.cell? ⟨w.heap.size + 1, 1, none⟩ = some y2
  res : Res W (w.heap.size + 1 + 1)
  res' : Res W (w.heap.size + 1 + 1 + 1)
  fres : FRes W (w.heap.size + 1 + 1 + 1 + 1)

theorem boxesD (w : World) (x1 y1 x2 y2 : Value) : BoxesD w (((((w.alloc (.cells #[x1, y1] 24)).alloc (.cells #[x2, y2] 24)).alloc (.cells #[.int .i64 0, .slice none 0 0] 24)).alloc (.cells #[.int .i64 0, .slice none 0 0] 24)).alloc (.cells #[.int .i64 0, .int .i64 0] 26)) x1 y1 x2 y2 := by
  have hb := boxes22 w x1 y1 x2 y2
  generalize hW : (((w.alloc (.cells #[x1, y1] 24)).alloc (.cells #[x2, y2] 24)).alloc (.cells #[.int .i64 0, .slice none 0 0] 24)).alloc (.cells #[.int .i64 0, .slice none 0 0] 24) = W at *
  have he := Ext.alloc W (.cells #[.int .i64 0, .int .i64 0] 26)
  have hs := hb.size
  refine ⟨hb.ext.then _, by simp [hs], cellKeep he (by omega) hb.c0, cellKeep he (by omega) hb.c1, cellKeep he (by omega) hb.d0, cellKeep he (by omega) hb.d1, hb.res.ext he, hb.res'.ext he, ⟨by simp [hs], ?_⟩⟩
  have := heap_alloc_new W (.cells #[.int .i64 0, .int .i64 0] 26)
  rw [hs] at this
  exact this

theorem Keep64.set6 {w : World} {p q r s t y : Addr} {u v x z k : Value} (hp : NotW w p) (hq : NotW w q) (hr : NotW w r) (hs : NotW w s) (ht : NotW w t) (hy : NotW w y) (hu : ∀ y, u ≠ .int .u64 y) (hv : ∀ y, v ≠ .int .u64 y) (hx : ∀ y, x ≠ .int .u64 y) (hz : ∀ y, z ≠ .int .u64 y) (hk : ∀ y, k ≠ .int .u64 y) (j : Value) :
    Keep64 w ((((((w.setCell p u).setCell q v).setCell r x).setCell s z).setCell t k).setCell y j) := by
  have h1 : ∀ a, NotW w a → NotW ((w.setCell p u).setCell q v) a := fun a ha => (ha.set hp hu).set (hq.set hp hu) hv
  have h2 : ∀ a, NotW w a → NotW ((((w.setCell p u).setCell q v).setCell r x).setCell s z) a := fun a ha => ((h1 a ha).set (h1 r hr) hx).set ((h1 s hs).set (h1 r hr) hx) hz
  exact (Keep64.set4 hp hq hr hs hu hv hx z).trans (Keep64.set2 (h2 t ht) (h2 y hy) hk j)

set_option maxHeartbeats 1600000 in
set_option maxRecDepth 100000 in
theorem Div_zero (s1 s2 : Int) (a1 a2 : Option Addr) (n1 c1 n2 c2 : Nat) (w : World) (h2 : IsInt w s2 a2 n2 c2 0) :
    Calls Tryd.prog 7 #[.agg #[.int .i64 s1, .slice a1 n1 c1], .agg #[.int .i64 s2, .slice a2 n2 c2]] w fun e w' => e = .returned (.tuple #[.agg #[.int .i64 0, .slice none 0 0], .agg #[.int .i64 0, .slice none 0 0], .agg #[.int .i64 4, .int .i64 0]]) ∧ Ext w w' := by
  have hc := h2.cmp3
  have hc0 : cmp3 (0 : Int) 0 = 0 := by decide
  rw [hc0] at hc
  have Hs := hid (Sign_any s2 (.slice a2 n2 c2))
  rw [hc] at Hs
  clear h2 hc hc0
  go_enter Tryd.func7, Tryd.ntmps7
  go_wp2_with fail
  have hbx := boxesD w (.int .i64 s1) (.slice a1 n1 c1) (.int .i64 s2) (.slice a2 n2 c2)
  generalize ((((w.alloc (.cells #[.int .i64 s1, .slice a1 n1 c1] 24)).alloc (.cells #[.int .i64 s2, .slice a2 n2 c2] 24)).alloc (.cells #[.int .i64 0, .slice none 0 0] 24)).alloc (.cells #[.int .i64 0, .slice none 0 0] 24)).alloc (.cells #[.int .i64 0, .int .i64 0] 26) = W0 at *
  refine (Hs.out _).mono ?_
  rintro e we ⟨rfl, hxe⟩
  have r1 := hbx.res.ext hxe; have r2 := hbx.res'.ext hxe; have r3 := hbx.fres.ext hxe
  have k0 := r1.c0; have k1 := r1.c1; have g0 := r1.f0; have g1 := r1.f1
  have k2 := r2.c0; have k3 := r2.c1; have g2 := r2.f0; have g3 := r2.f1
  have k4 := r3.c0; have k5 := r3.c1; have g4 := r3.f0; have g5 := r3.f1
  go_wp2_with fail
  exact bodyPost_ret (v := .tuple #[.agg #[.int .i64 0, .slice none 0 0], .agg #[.int .i64 0, .slice none 0 0], .agg #[.int .i64 4, .int .i64 0]]) (by simp [results, Tryd.results7, go_sem, k0, k1, k2, k3, k4, k5]) rfl
    ⟨rfl, (((hbx.ext.trans hxe).put2 (by omega) _ _).put2 (by omega) _ _).put2 (by omega) _ _⟩

set_option maxHeartbeats 2000000 in
set_option maxRecDepth 100000 in
theorem Div_any (s1 s2 : Int) (a1 a2 : Option Addr) (n1 c1 n2 c2 : Nat) (z1 z2 : Int) (w : World) (h1 : IsInt w s1 a1 n1 c1 z1) (h2 : IsInt w s2 a2 n2 c2 z2) (K : Nat) (hK : K ≤ 4194304) (hK1 : 1 ≤ K) (hf1 : Fit K z1) (hf2 : Fit K z2) (hz0 : z2 ≠ 0) :
    Calls Tryd.prog 7 #[.agg #[.int .i64 s1, .slice a1 n1 c1], .agg #[.int .i64 s2, .slice a2 n2 c2]] w fun e w' => ∃ (s3 : Int) (a3 : Option Addr) (n3 c3 : Nat) (s4 : Int) (a4 : Option Addr) (n4 c4 : Nat) (q r : Int), e = .returned (.tuple #[.agg #[.int .i64 s3, .slice a3 n3 c3], .agg #[.int .i64 s4, .slice a4 n4 c4], .agg #[.int .i64 0, .int .i64 0]]) ∧ IsInt w' s3 a3 n3 c3 q ∧ IsInt w' s4 a4 n4 c4 r ∧ IsDiv z1 z2 q r ∧ Ext w w' := by
  have Hf1 := hid hf1; have Hf2 := hid hf2; have H1 := hid h1; have H2 := hid h2; have Hz0 := hid hz0
  have hc := h2.cmp3
  have hsg := h2.sign
  have Hs := hid (Sign_any s2 (.slice a2 n2 c2))
  obtain ⟨sg, hsg'⟩ : ∃ sg, cmp3 s2 0 = sg := ⟨_, rfl⟩
  have hb0 : (sg == 0) = false := by
    rw [beq_eq_false_iff_ne, ← hsg', hc]
    unfold cmp3
    split
    · decide
    · split
      · decide
      · omega
  rw [hsg'] at Hs
  have Hdt := hid (fun wx (hx : Ext w wx) => divTowards_any s1 s2 a1 a2 n1 c1 n2 c2 z1 z2 wx (h1.ext hx) (h2.ext hx) K hK hf1 hf2 hz0)
  have Hnb := hid (fun w0 : World => negative_from (w := w0) s2 (.slice a2 n2 c2))
  have Hsg := hid hsg.1
  have Hfq : Hid (Fit K (z1.tdiv z2)) := hf1.le (tdiv_le z1 z2)
  have Hfr : Hid (Fit K (z1.tmod z2)) := by
    refine hf2.le ?_
    rw [Int.natAbs_tmod]
    exact Nat.le_of_lt (Nat.mod_lt _ (by omega))
  clear hf1 hf2 h1 h2 hz0 hc hsg hsg'
  go_enter Tryd.func7, Tryd.ntmps7
  go_wp2_with fail
  have hbx := boxesD w (.int .i64 s1) (.slice a1 n1 c1) (.int .i64 s2) (.slice a2 n2 c2)
  generalize ((((w.alloc (.cells #[.int .i64 s1, .slice a1 n1 c1] 24)).alloc (.cells #[.int .i64 s2, .slice a2 n2 c2] 24)).alloc (.cells #[.int .i64 0, .slice none 0 0] 24)).alloc (.cells #[.int .i64 0, .slice none 0 0] 24)).alloc (.cells #[.int .i64 0, .int .i64 0] 26) = W0 at *
  have hB : w.heap.size + 4 < W0.heap.size := by have := hbx.size; omega
  refine (Hs.out _).mono ?_
  rintro e we ⟨rfl, hxe⟩
  have y0 := cellKeep hxe (by omega) hbx.c0; have y1 := cellKeep hxe (by omega) hbx.c1; have y2 := cellKeep hxe (by omega) hbx.d0; have y3 := cellKeep hxe (by omega) hbx.d1
  go_wp2_with fail
  refine (Hdt.out _ (hbx.ext.trans hxe)).mono ?_
  rintro e wd ⟨s3, a3, n3, c3, s4, a4, n4, c4, rfl, hI3, hI4, hxd⟩
  have Hn4 := hid (negative_any s4 (.slice a4 n4 c4))
  have hE1 := Ext.alloc wd (.cells #[.int .i64 s3, .slice a3 n3 c3] 24)
  have hE2 := Ext.alloc (wd.alloc (.cells #[.int .i64 s3, .slice a3 n3 c3] 24)) (.cells #[.int .i64 s4, .slice a4 n4 c4] 24)
  have hbq := boxed2 wd (.int .i64 s3) (.slice a3 n3 c3) (.int .i64 s4) (.slice a4 n4 c4)
  have Hsg4 := hid hI4.sign.1
  have HI3 := hid hI3; have HI4 := hid hI4
  clear hI3 hI4 y0 y1
  go_wp2_with fail
  generalize (wd.alloc (.cells #[.int .i64 s3, .slice a3 n3 c3] 24)).alloc (.cells #[.int .i64 s4, .slice a4 n4 c4] 24) = W1 at *
  refine (Hn4.out _).mono ?_
  rintro e wn ⟨rfl, hxn⟩
  have hBq : wd.heap.size + 1 < W1.heap.size := by have := hbq.size; omega
  have hBd : w.heap.size + 4 < wd.heap.size := by have := hxe.size; have := hxd.size; omega
  have hBn : wd.heap.size + 1 < wn.heap.size := by have := hxn.size; omega
  obtain ⟨q0, q1, q2, q3⟩ := keepb hxn hbq
  have hdn : Ext wd wn := hbq.ext.trans hxn
  have b0 := cellKeep (hxd.trans hdn) (by have := hxe.size; omega) y2; have b1 := cellKeep (hxd.trans hdn) (by have := hxe.size; omega) y3
  have hxn' : Ext W0 wn := hxe.trans (hxd.trans hdn)
  have rA := hbx.res.ext hxn'; have rB := hbx.res'.ext hxn'; have rF := hbx.fres.ext hxn'
  have HE : Hid (Ext w wn) := hbx.ext.trans hxn'
  have I3 := HI3.out.ext hdn; have I4 := HI4.out.ext hdn
  have HI2 := hid (H2.out.ext HE.out)
  have hwnd : Ext wn wn.drew := Below.drew (Ext.refl _)
  clear y2 y3 hE1 hE2 hxe hxd hxn hdn hxn' hbq hbx hBq hB
  by_cases hneg : s4 < 0
  · by_cases hnb : s2 < 0
    · have hd2 : decide (s2 < 0) = true := decide_eq_true hnb
      have hd4 : decide (s4 < 0) = true := decide_eq_true hneg
      have Hfin : Hid (IsDiv z1 z2 (z1.tdiv z2 + 1) (z1.tmod z2 - z2)) := isDiv_neg (Hsg4.out.1 hneg) (Hsg.out.1 hnb)
      rw [hd4]
      clear hd4 hneg
      go_wp2_with fail
      refine (Hnb.out wn _ (Ext.refl _)).mono ?_
      rintro e wm ⟨rfl, hxm, _⟩
      rw [hd2]
      clear hd2 hnb
      have u0 := cellKeep hxm (by omega) q0; have u1 := cellKeep hxm (by omega) q1; have u2 := cellKeep hxm (by omega) q2; have u3 := cellKeep hxm (by omega) q3; have u4 := cellKeep hxm (by omega) b0; have u5 := cellKeep hxm (by omega) b1
      have J3 := I3.ext hxm; have J4 := I4.ext hxm; have J2 := HI2.out.ext hxm
      have Ho := hid (Of_from (w := wm) 1 (by omega) (by omega)); have Hadd := hid (Add_from J3 K hK Hfq.out); have Hsub := hid (Sub_from J4 K hK Hfr.out)
      have hwmd : Ext wm wm.drew := Below.drew (Ext.refl _)
      have hBm : wd.heap.size + 1 < wm.heap.size := by have := hxm.size; omega
      have rA' := rA.ext hxm; have rB' := rB.ext hxm; have rF' := rF.ext hxm
      clear q0 q1 q2 q3 b0 b1 hwnd rA rB rF
      go_wp2_with fail
      go_region_held3 (fun w' => w'.cell? ⟨wd.heap.size, 0, none⟩ = some (.int .i64 s3) ∧ w'.cell? ⟨wd.heap.size, 1, none⟩ = some (.slice a3 n3 c3) ∧ w'.cell? ⟨wd.heap.size + 1, 0, none⟩ = some (.int .i64 s4) ∧ w'.cell? ⟨wd.heap.size + 1, 1, none⟩ = some (.slice a4 n4 c4) ∧ w'.cell? ⟨w.heap.size + 1, 0, none⟩ = some (.int .i64 s2) ∧ w'.cell? ⟨w.heap.size + 1, 1, none⟩ = some (.slice a2 n2 c2))
        (refine ⟨?_, ?_, ?_, ?_, ?_, ?_⟩ <;> (repeat (refine cellPut (by omega) ?_)) <;> exact cellKeep (W := wm) (by assumption) (by omega) (by assumption))
        (first | (go_at_call 21; refine (Ho.out _ (by assumption)).mono ?_; rintro e wa ⟨rfl, hea, hxa⟩) | (go_at_call 25; refine (Hadd.out _ 1 none 0 0 1 (by assumption) (IsInt.small _ _ (by omega) (by omega)) (Fit.one hK1)).mono ?_; rintro e wb ⟨s5, a5, n5, c5, rfl, hI5, heb, hxb⟩) | (go_at_call 26; refine (Hsub.out _ s2 a2 n2 c2 z2 (by assumption) (J2.ext (by assumption)) Hf2.out).mono ?_; rintro e wc ⟨s6, a6, n6, c6, rfl, hI6, hec, hxc⟩; have r1 := rA'.ext hec; have r2 := rB'.ext hec; have r3 := rF'.ext hec; have k0 := r1.c0; have k1 := r1.c1; have g0 := r1.f0; have g1 := r1.f1; have k2 := r2.c0; have k3 := r2.c1; have g2 := r2.f0; have g3 := r2.f1; have k4 := r3.c0; have k5 := r3.c1; have g4 := r3.f0; have g5 := r3.f1))
      all_goals
        go_wp2_with fail
        have hkk := Keep64.set6 (w := wc) (.i64 k0) (.slice k1) (.i64 k2) (.slice k3) (.i64 k4) (.i64 k5) (notW_i64 s5) (notW_slice a5 n5 c5) (notW_i64 s6) (notW_slice a6 n6 c6) (notW_i64 0) (.int .i64 0)
        exact bodyPost_ret (v := .tuple #[.agg #[.int .i64 s5, .slice a5 n5 c5], .agg #[.int .i64 s6, .slice a6 n6 c6], .agg #[.int .i64 0, .int .i64 0]]) (by simp [results, Tryd.results7, go_sem, k0, k1, k2, k3, k4, k5]) rfl
          ⟨s5, a5, n5, c5, s6, a6, n6, c6, _, _, rfl, (hI5.ext hxc).keep64 hkk, hI6.keep64 hkk, Hfin.out, ((((HE.out.trans hxm).trans hec).put2 (by omega) _ _).put2 (by omega) _ _).put2 (by omega) _ _⟩
    · have hd2 : decide (s2 < 0) = false := decide_eq_false hnb
      have hd4 : decide (s4 < 0) = true := decide_eq_true hneg
      have Hfin : Hid (IsDiv z1 z2 (z1.tdiv z2 - 1) (z1.tmod z2 + z2)) := isDiv_plus (Hsg4.out.1 hneg) (by have := Hz0.out; have := Hsg.out; omega)
      rw [hd4]
      clear hd4 hneg
      go_wp2_with fail
      refine (Hnb.out wn _ (Ext.refl _)).mono ?_
      rintro e wm ⟨rfl, hxm, _⟩
      rw [hd2]
      clear hd2 hnb
      have u0 := cellKeep hxm (by omega) q0; have u1 := cellKeep hxm (by omega) q1; have u2 := cellKeep hxm (by omega) q2; have u3 := cellKeep hxm (by omega) q3; have u4 := cellKeep hxm (by omega) b0; have u5 := cellKeep hxm (by omega) b1
      have J3 := I3.ext hxm; have J4 := I4.ext hxm; have J2 := HI2.out.ext hxm
      have Ho := hid (Of_from (w := wm) 1 (by omega) (by omega)); have Hsub := hid (Sub_from J3 K hK Hfq.out); have Hadd := hid (Add_from J4 K hK Hfr.out)
      have hwmd : Ext wm wm.drew := Below.drew (Ext.refl _)
      have hBm : wd.heap.size + 1 < wm.heap.size := by have := hxm.size; omega
      have rA' := rA.ext hxm; have rB' := rB.ext hxm; have rF' := rF.ext hxm
      clear q0 q1 q2 q3 b0 b1 hwnd rA rB rF
      go_wp2_with fail
      go_region_held3 (fun w' => w'.cell? ⟨wd.heap.size, 0, none⟩ = some (.int .i64 s3) ∧ w'.cell? ⟨wd.heap.size, 1, none⟩ = some (.slice a3 n3 c3) ∧ w'.cell? ⟨wd.heap.size + 1, 0, none⟩ = some (.int .i64 s4) ∧ w'.cell? ⟨wd.heap.size + 1, 1, none⟩ = some (.slice a4 n4 c4) ∧ w'.cell? ⟨w.heap.size + 1, 0, none⟩ = some (.int .i64 s2) ∧ w'.cell? ⟨w.heap.size + 1, 1, none⟩ = some (.slice a2 n2 c2))
        (refine ⟨?_, ?_, ?_, ?_, ?_, ?_⟩ <;> (repeat (refine cellPut (by omega) ?_)) <;> exact cellKeep (W := wm) (by assumption) (by omega) (by assumption))
        (first | (go_at_call 21; refine (Ho.out _ (by assumption)).mono ?_; rintro e wa ⟨rfl, hea, hxa⟩) | (go_at_call 26; refine (Hsub.out _ 1 none 0 0 1 (by assumption) (IsInt.small _ _ (by omega) (by omega)) (Fit.one hK1)).mono ?_; rintro e wb ⟨s5, a5, n5, c5, rfl, hI5, heb, hxb⟩) | (go_at_call 25; refine (Hadd.out _ s2 a2 n2 c2 z2 (by assumption) (J2.ext (by assumption)) Hf2.out).mono ?_; rintro e wc ⟨s6, a6, n6, c6, rfl, hI6, hec, hxc⟩; have r1 := rA'.ext hec; have r2 := rB'.ext hec; have r3 := rF'.ext hec; have k0 := r1.c0; have k1 := r1.c1; have g0 := r1.f0; have g1 := r1.f1; have k2 := r2.c0; have k3 := r2.c1; have g2 := r2.f0; have g3 := r2.f1; have k4 := r3.c0; have k5 := r3.c1; have g4 := r3.f0; have g5 := r3.f1))
      all_goals
        go_wp2_with fail
        have hkk := Keep64.set6 (w := wc) (.i64 k0) (.slice k1) (.i64 k2) (.slice k3) (.i64 k4) (.i64 k5) (notW_i64 s5) (notW_slice a5 n5 c5) (notW_i64 s6) (notW_slice a6 n6 c6) (notW_i64 0) (.int .i64 0)
        exact bodyPost_ret (v := .tuple #[.agg #[.int .i64 s5, .slice a5 n5 c5], .agg #[.int .i64 s6, .slice a6 n6 c6], .agg #[.int .i64 0, .int .i64 0]]) (by simp [results, Tryd.results7, go_sem, k0, k1, k2, k3, k4, k5]) rfl
          ⟨s5, a5, n5, c5, s6, a6, n6, c6, _, _, rfl, (hI5.ext hxc).keep64 hkk, hI6.keep64 hkk, Hfin.out, ((((HE.out.trans hxm).trans hec).put2 (by omega) _ _).put2 (by omega) _ _).put2 (by omega) _ _⟩
  · have Hfin : Hid (IsDiv z1 z2 (z1.tdiv z2) (z1.tmod z2)) := isDiv_pos Hz0.out (fun k => hneg (Hsg4.out.2 k))
    have hd4 : decide (s4 < 0) = false := decide_eq_false hneg
    rw [hd4]
    clear hd4 hneg
    have k0 := rA.c0; have k1 := rA.c1; have g0 := rA.f0; have g1 := rA.f1; have k2 := rB.c0; have k3 := rB.c1; have g2 := rB.f0; have g3 := rB.f1; have k4 := rF.c0; have k5 := rF.c1; have g4 := rF.f0; have g5 := rF.f1
    have hkk := Keep64.set6 (w := wn) (.i64 k0) (.slice k1) (.i64 k2) (.slice k3) (.i64 k4) (.i64 k5) (notW_i64 s3) (notW_slice a3 n3 c3) (notW_i64 s4) (notW_slice a4 n4 c4) (notW_i64 0) (.int .i64 0)
    go_wp2_with fail
    go_region
    go_wp2_with fail
    exact bodyPost_ret (v := .tuple #[.agg #[.int .i64 s3, .slice a3 n3 c3], .agg #[.int .i64 s4, .slice a4 n4 c4], .agg #[.int .i64 0, .int .i64 0]]) (by simp [results, Tryd.results7, go_sem, k0, k1, k2, k3, k4, k5]) rfl
      ⟨s3, a3, n3, c3, s4, a4, n4, c4, _, _, rfl, (I3.keep64 hkk).ext (Below.drew (Ext.refl _)), (I4.keep64 hkk).ext (Below.drew (Ext.refl _)), Hfin.out, Below.drew (((HE.out.put2 (by omega) _ _).put2 (by omega) _ _).put2 (by omega) _ _)⟩

end Go.Proofs.YtnemjllghpijgaaDoor
namespace Go.Proofs.YtnemjllghpijgaaDoor
open Go.RowKit

set_option maxHeartbeats 1000000 in
set_option maxRecDepth 100000 in
theorem withoutSign_any (sm : Int) (ao : Option Addr) (n c : Nat) (z : Int) (w : World) (h : IsInt w sm ao n c z) :
    Calls Tryd.prog 37 #[.agg #[.int .i64 sm, .slice ao n c]] w fun e w' => ∃ (s' : Int) (a' : Option Addr) (n' c' : Nat), e = .returned (.agg #[.int .i64 s', .slice a' n' c']) ∧ IsInt w' s' a' n' c' (z.natAbs : Nat) ∧ Ext w w' := by
  have Hsg := hid h.sign.1
  have H := hid h
  clear h
  obtain ⟨b, hb⟩ : ∃ b, decide (sm < 0) = b := ⟨_, rfl⟩
  have hn := negative_any sm (.slice ao n c)
  rw [hb] at hn
  have Hn := hid hn
  have Hb : Hid ((b = true → (z.natAbs : Int) = -z) ∧ (b = false → (z.natAbs : Int) = z)) := by
    have := Hsg.out
    constructor
    · intro h; rw [← hb] at h; have := this.1 (by simpa using h); omega
    · intro h; rw [← hb] at h
      have h2 : ¬ sm < 0 := by simpa using h
      have : ¬ z < 0 := fun k => h2 (this.2 k)
      omega
  clear hn hb
  go_enter Tryd.func37, Tryd.ntmps37
  go_wp2_with fail
  have hbx := boxes1 w (.int .i64 sm) (.slice ao n c)
  generalize (w.alloc (.cells #[.int .i64 sm, .slice ao n c] 24)).alloc (.cells #[.int .i64 0, .slice none 0 0] 24) = W0 at *
  have hB : w.heap.size < W0.heap.size := by have := hbx.size; omega
  refine (Hn.out _).mono ?_
  rintro e we ⟨rfl, hxe⟩
  obtain ⟨y0, y1⟩ := keep2 hxe hB hbx.c0 hbx.c1
  have hrr := hbx.res.ext hxe
  cases b
  · have k0 := hrr.c0; have k1 := hrr.c1; have g0 := hrr.f0; have g1 := hrr.f1
    go_wp2_with fail
    exact bodyPost_ret (v := .agg #[.int .i64 sm, .slice ao n c]) (by simp [results, Tryd.results37, go_sem, k0, k1]) rfl ⟨sm, ao, n, c, rfl, ((H.out.ext (hbx.ext.trans hxe)).cast (Hb.out.2 (by simp)).symm).keep64 (Keep64.set2 (.i64 k0) (.slice k1) (notW_i64 _) _), (hbx.ext.trans hxe).put2 (by omega) _ _⟩
  · go_wp2_with fail
    refine (Neg_any sm ao n c z we (H.out.ext (hbx.ext.trans hxe))).mono ?_
    rintro e wf ⟨s4, a4, n4, c4, rfl, hI4, hxf⟩
    have hr4 := hrr.ext hxf
    have k0 := hr4.c0; have k1 := hr4.c1; have g0 := hr4.f0; have g1 := hr4.f1
    go_wp2_with fail
    exact bodyPost_ret (v := .agg #[.int .i64 s4, .slice a4 n4 c4]) (by simp [results, Tryd.results37, go_sem, k0, k1]) rfl ⟨s4, a4, n4, c4, rfl, (hI4.cast (Hb.out.1 (by simp)).symm).keep64 (Keep64.set2 (.i64 k0) (.slice k1) (notW_i64 _) _), ((hbx.ext.trans hxe).trans hxf).put2 (by omega) _ _⟩

theorem shr_small (s : Int) (k : Nat) (h1 : -9223372036854775808 ≤ s) (h2 : s ≤ 9223372036854775807) : s / 2 ^ min k 64 = s / 2 ^ k := by
  by_cases hk : k ≤ 64
  · rw [Nat.min_eq_left hk]
  · rw [Nat.min_eq_right (by omega)]
    have hp : ∀ j : Nat, 64 ≤ j → s / 2 ^ j = if s < 0 then -1 else 0 := by
      intro j hj
      have h3 : (2 : Int) ^ 64 ≤ 2 ^ j := by
        have : (2 : Nat) ^ 64 ≤ 2 ^ j := Nat.pow_le_pow_right (by decide) hj
        exact_mod_cast this
      generalize (2 : Int) ^ j = p at *
      have h4 : (18446744073709551616 : Int) ≤ p := h3
      by_cases hs : s < 0
      · rw [if_pos hs]
        exact ((Int.ediv_emod_unique (r := s + p) (by omega)).2 ⟨by omega, by omega, by omega⟩).1
      · rw [if_neg hs]
        exact Int.ediv_eq_zero_of_lt (by omega) (by omega)
    rw [hp 64 (by omega), hp k (by omega)]

theorem neg_div (v p : Nat) (hp : 0 < p) : (-(v : Int)) / (p : Int) = if v % p = 0 then -((v / p : Nat) : Int) else -((v / p : Nat) : Int) - 1 := by
  have h := Nat.div_add_mod v p
  have hl := Nat.mod_lt v hp
  have h' : (p : Int) * ((v / p : Nat) : Int) + ((v % p : Nat) : Int) = (v : Int) := by exact_mod_cast h
  split
  · rename_i h0
    rw [h0] at h'
    refine ((Int.ediv_emod_unique (r := 0) (by omega)).2 ⟨?_, by omega, by omega⟩).1
    rw [Int.mul_neg]; omega
  · rename_i h0
    refine ((Int.ediv_emod_unique (r := (p : Int) - ((v % p : Nat) : Int)) (by omega)).2 ⟨?_, by omega, by omega⟩).1
    rw [Int.mul_sub, Int.mul_neg, Int.mul_one]; omega

/-- Where a shift there and back gives the number again, it has lost nothing. -/
theorem shl_back (s : Int) (k : Nat) (h : IntKind.i64.wrap (s * 2 ^ min k 64) / 2 ^ min k 64 = s) : IntKind.i64.wrap (s * 2 ^ min k 64) = s * 2 ^ k := by
  by_cases hk : k ≤ 63
  · have hm : min k 64 = k := Nat.min_eq_left (by omega)
    rw [hm] at h ⊢
    obtain ⟨d, hd⟩ : ∃ d, 64 = k + d := ⟨64 - k, by omega⟩
    have hp : (0 : Int) < 2 ^ k := Int.pow_pos (by decide)
    have e : (18446744073709551616 : Int) = 2 ^ k * 2 ^ d := by
      rw [← Int.pow_add, ← hd]; decide
    have hdv : IntKind.i64.wrap (s * 2 ^ k) % 2 ^ k = 0 := by
      have hw : ∃ t : Int, IntKind.i64.wrap (s * 2 ^ k) = s * 2 ^ k + 18446744073709551616 * t := by
        rw [IntKind.wrap_i64]
        refine ⟨-((s * 2 ^ k + 9223372036854775808) / 18446744073709551616), ?_⟩
        have := Int.mul_ediv_add_emod (s * 2 ^ k + 9223372036854775808) 18446744073709551616
        omega
      obtain ⟨t, ht⟩ := hw
      rw [ht, e, Int.mul_comm s, Int.mul_assoc, ← Int.mul_add]
      exact Int.mul_emod_right _ _
    have h3 := Int.mul_ediv_add_emod (IntKind.i64.wrap (s * 2 ^ k)) (2 ^ k)
    rw [h, hdv, Int.add_zero, Int.mul_comm] at h3
    exact h3.symm
  · have hm : min k 64 = 64 := Nat.min_eq_right (by omega)
    rw [hm] at h ⊢
    have hw : IntKind.i64.wrap (s * 2 ^ 64) = 0 := by
      rw [IntKind.wrap_i64]; omega
    rw [hw] at h ⊢
    have : s = 0 := by rw [← h]; decide
    rw [this, Int.zero_mul]

theorem sgn_pow (b : Bool) (x k : Nat) : sgn b (x * 2 ^ k) = sgn b x * 2 ^ k := by
  cases b <;> simp [sgn, Int.neg_mul]

theorem shiftUp_from {w : World} (k : Nat) (hk : k ≤ 1073741824) : ∀ (wx : World) (a : Option Addr) (l : List Nat) (n c : Nat), Ext w wx → l.length = n → Seg wx a l → Dig l → n ≤ c → n ≤ 1073741824 →
    Calls Tryd.prog 62 #[.slice a n c, .int .u64 k] wx fun e w' => ∃ (a' : Option Addr) (l' : List Nat) (n' c' : Nat), e = .returned (.slice a' n' c') ∧ l'.length = n' ∧ n' ≤ c' ∧ c' ≤ maxLen ∧ Seg w' a' l' ∧ Dig l' ∧ Nrm l' ∧ Hid (val l' = val l * 2 ^ k) ∧ Ext w w' ∧ Ext wx w' :=
  fun wx a l n c hx h1 h2 h3 h4 h5 => (shiftUp_any a l n c k wx h1 h2 h3 h4 h5 hk).mono fun _ _ ⟨v, k1, k2, k3⟩ => by
    obtain ⟨ao', l', c', rfl, h5, h6, h7, h8, h9, h10⟩ := k2
    exact ⟨ao', l', l'.length, c', k1, rfl, h5, h6, h7, h8, h9, h10, hx.trans k3, k3⟩

theorem shiftDown_from {w : World} (k : Nat) (hk : k ≤ 1073741824) : ∀ (wx : World) (a : Option Addr) (l : List Nat) (n c : Nat), Ext w wx → l.length = n → Seg wx a l → Dig l → n ≤ c → c ≤ maxLen → n ≤ 1073741824 →
    Calls Tryd.prog 61 #[.slice a n c, .int .u64 k] wx fun e w' => ∃ (a' : Option Addr) (l' : List Nat) (n' c' : Nat), e = .returned (.slice a' n' c') ∧ l'.length = n' ∧ n' ≤ c' ∧ c' ≤ maxLen ∧ Seg w' a' l' ∧ Dig l' ∧ Nrm l' ∧ Hid (val l' = val l / 2 ^ k) ∧ Ext w w' ∧ Ext wx w' :=
  fun wx a l n c hx h1 h2 h3 h4 h4' h5 => (shiftDown_any a l n c k wx h1 h2 h3 h4 h4' h5 hk).mono fun _ _ ⟨v, k1, k2, k3⟩ => by
    obtain ⟨ao', l', c', rfl, h5, h6, h7, h8, h9, h10⟩ := k2
    exact ⟨ao', l', l'.length, c', k1, rfl, h5, h6, h7, h8, h9, h10, hx.trans k3, k3⟩

set_option maxHeartbeats 1600000 in
set_option maxRecDepth 100000 in
theorem double_any (sm : Int) (ao : Option Addr) (n c : Nat) (z : Int) (k : Nat) (w : World) (h : IsInt w sm ao n c z) (hk : k ≤ 1073741824) (K : Nat) (hK : K ≤ 4194304) (hf : Fit K z) :
    Calls Tryd.prog 40 #[.agg #[.int .i64 sm, .slice ao n c], .int .u64 k] w fun e w' => ∃ (s' : Int) (a' : Option Addr) (n' c' : Nat), e = .returned (.agg #[.int .i64 s', .slice a' n' c']) ∧ IsInt w' s' a' n' c' (z * 2 ^ k) ∧ Ext w w' := by
  have q1 := eql_nil ao n c 0 0
  have H := hid h; have Hf := hid hf
  have hzb := h.bool
  obtain ⟨u, hu⟩ : ∃ u, IntKind.i64.wrap (sm * 2 ^ min k 64) = u := ⟨_, rfl⟩
  obtain ⟨q, hq⟩ : ∃ q, u / 2 ^ min k 64 = q := ⟨_, rfl⟩
  by_cases hsh : ao = none ∧ q = sm
  · obtain ⟨rfl, rfl⟩ := hsh
    obtain ⟨rfl, rfl, rfl, r1, r2⟩ := h.none
    have hfin := shl_back q k (by rw [hu]; exact hq)
    rw [hu] at hfin
    have hur : -9223372036854775808 ≤ u ∧ u ≤ 9223372036854775807 := by rw [← hu, IntKind.wrap_i64]; omega
    rw [← hfin]
    have hno : (none : Option Addr).isNone = true := rfl
    clear h hf hzb hfin H Hf
    go_enter Tryd.func40, Tryd.ntmps40
    go_wp2
    exact bodyPost_ret (v := .agg #[.int .i64 u, .slice none 0 0]) (by simp [results, Tryd.results40, go_sem]) rfl ⟨u, none, 0, 0, rfl, IsInt.small _ _ hur.1 hur.2, (Ext.alloc _ _).then _⟩
  · obtain ⟨bb, hbb⟩ : ∃ bb, decide (sm < 0) = bb := ⟨_, rfl⟩
    have hcase : ao.isNone = false ∨ (ao = none ∧ (q == sm) = false) := by
      rcases ao with _ | a
      · right; refine ⟨rfl, ?_⟩; rw [beq_eq_false_iff_ne]; intro e; exact hsh ⟨rfl, e⟩
      · left; rfl
    rw [hbb] at hzb
    have Hzb := hid hzb; have Hbb := hid hbb
    clear hsh h hf hzb hbb
    rcases hcase with hno | ⟨rfl, hno⟩
    all_goals
      go_enter Tryd.func40, Tryd.ntmps40
      go_wp2_with fail
    · have hbx := boxes1 w (.int .i64 sm) (.slice ao n c)
      generalize (w.alloc (.cells #[.int .i64 sm, .slice ao n c] 24)).alloc (.cells #[.int .i64 0, .slice none 0 0] 24) = W0 at *
      have hB : w.heap.size < W0.heap.size := by have := hbx.size; omega
      have hnn := negative_from (w := W0) sm (.slice ao n c)
      rw [Hbb.out] at hnn
      have Hn := hid hnn; have Hw := hid (words_from (H.out.ext hbx.ext)); have Hsu := hid (shiftUp_from (w := W0) k hk); have Hfw := hid (fromWords_from (w := W0) bb)
      have hE0d : Ext W0 W0.drew := Below.drew (Ext.refl _)
      have c0 := hbx.c0; have c1 := hbx.c1
      clear hnn
      go_region_held3 (fun w' => w'.cell? ⟨w.heap.size, 0, none⟩ = some (.int .i64 sm) ∧ w'.cell? ⟨w.heap.size, 1, none⟩ = some (.slice ao n c))
        (refine ⟨?_, ?_⟩ <;> (repeat (refine cellPut (by omega) ?_)) <;> exact cellKeep (W := W0) (by assumption) (by omega) (by assumption))
        (first | (go_at_call 24; refine (Hn.out _ (by assumption)).mono ?_; rintro e w1 ⟨rfl, he1, hx1⟩) | (go_at_call 50; refine (Hw.out _ (by assumption)).mono ?_; rintro e w2 ⟨a2, l2, n2, c2, rfl, hl2, hn2, hc2, hs2, hd2, hm2, Hv2, he2, hx2⟩; have Hl2 := hid hl2; clear hl2) | (go_at_call 62; refine (Hsu.out _ a2 l2 n2 c2 (by assumption) Hl2.out (hs2.ext (Ext.refl _)) hd2 hn2 (by have := Hf.out.len hm2 Hv2.out; have := Hl2.out; omega)).mono ?_; rintro e w3 ⟨a3, l3, n3, c3, rfl, hl3, hn3, hc3, hs3, hd3, hm3, Hv3, he3, hx3⟩; have Hl3 := hid hl3; clear hl3) | (go_at_call 46; refine (Hfw.out _ a3 l3 n3 c3 (by assumption) Hl3.out hs3 hd3 hn3 hc3).mono ?_; rintro e w4 ⟨s4, a4, n4, c4, rfl, hI4, he4, hx4⟩; have hr4 := hbx.res.ext he4; have k0 := hr4.c0; have k1 := hr4.c1; have g0 := hr4.f0; have g1 := hr4.f1))
      go_wp2_with fail
      exact bodyPost_ret (v := .agg #[.int .i64 s4, .slice a4 n4 c4]) (by simp [results, Tryd.results40, go_sem, k0, k1]) rfl ⟨s4, a4, n4, c4, rfl, (hI4.cast (by rw [Hv3.out, Hv2.out, sgn_pow, ← Hzb.out])).keep64 (Keep64.set2 (.i64 k0) (.slice k1) (notW_i64 _) _), (hbx.ext.trans he4).put2 (by omega) _ _⟩
    · have hbx := boxes1 w (.int .i64 sm) (.slice none n c)
      generalize (w.alloc (.cells #[.int .i64 sm, .slice none n c] 24)).alloc (.cells #[.int .i64 0, .slice none 0 0] 24) = W0 at *
      have hB : w.heap.size < W0.heap.size := by have := hbx.size; omega
      have hnn := negative_from (w := W0) sm (.slice none n c)
      rw [Hbb.out] at hnn
      have Hn := hid hnn; have Hw := hid (words_from (H.out.ext hbx.ext)); have Hsu := hid (shiftUp_from (w := W0) k hk); have Hfw := hid (fromWords_from (w := W0) bb)
      have hE0d : Ext W0 W0.drew := Below.drew (Ext.refl _)
      have c0 := hbx.c0; have c1 := hbx.c1
      clear hnn
      go_region_held3 (fun w' => w'.cell? ⟨w.heap.size, 0, none⟩ = some (.int .i64 sm) ∧ w'.cell? ⟨w.heap.size, 1, none⟩ = some (.slice none n c))
        (refine ⟨?_, ?_⟩ <;> (repeat (refine cellPut (by omega) ?_)) <;> exact cellKeep (W := W0) (by assumption) (by omega) (by assumption))
        (first | (go_at_call 24; refine (Hn.out _ (by assumption)).mono ?_; rintro e w1 ⟨rfl, he1, hx1⟩) | (go_at_call 50; refine (Hw.out _ (by assumption)).mono ?_; rintro e w2 ⟨a2, l2, n2, c2, rfl, hl2, hn2, hc2, hs2, hd2, hm2, Hv2, he2, hx2⟩; have Hl2 := hid hl2; clear hl2) | (go_at_call 62; refine (Hsu.out _ a2 l2 n2 c2 (by assumption) Hl2.out (hs2.ext (Ext.refl _)) hd2 hn2 (by have := Hf.out.len hm2 Hv2.out; have := Hl2.out; omega)).mono ?_; rintro e w3 ⟨a3, l3, n3, c3, rfl, hl3, hn3, hc3, hs3, hd3, hm3, Hv3, he3, hx3⟩; have Hl3 := hid hl3; clear hl3) | (go_at_call 46; refine (Hfw.out _ a3 l3 n3 c3 (by assumption) Hl3.out hs3 hd3 hn3 hc3).mono ?_; rintro e w4 ⟨s4, a4, n4, c4, rfl, hI4, he4, hx4⟩; have hr4 := hbx.res.ext he4; have k0 := hr4.c0; have k1 := hr4.c1; have g0 := hr4.f0; have g1 := hr4.f1))
      go_wp2_with fail
      exact bodyPost_ret (v := .agg #[.int .i64 s4, .slice a4 n4 c4]) (by simp [results, Tryd.results40, go_sem, k0, k1]) rfl ⟨s4, a4, n4, c4, rfl, (hI4.cast (by rw [Hv3.out, Hv2.out, sgn_pow, ← Hzb.out])).keep64 (Keep64.set2 (.i64 k0) (.slice k1) (notW_i64 _) _), (hbx.ext.trans he4).put2 (by omega) _ _⟩

end Go.Proofs.YtnemjllghpijgaaDoor
