/-
  divTowardsNought.
-/
import Derived.Test.YtdiojbgbeeojkaaGreatDoorMIntE
import Derived.Test.YtdiojbgbeeojkaaGreatDoorMTxP

namespace Go.Proofs.YtdiojbgbeeojkaaGreatDoor
open Go.RowKit

theorem tdiv_range (a b : Int) (hb0 : b ≠ 0) (hb1 : b ≠ -1) (h1 : -9223372036854775808 ≤ a) (h2 : a ≤ 9223372036854775807) : -9223372036854775808 ≤ a.tdiv b ∧ a.tdiv b ≤ 9223372036854775807 := by
  have hn : (a.tdiv b).natAbs = a.natAbs / b.natAbs := Int.natAbs_tdiv a b
  by_cases hb : b = 1
  · subst hb; rw [Int.tdiv_one]; exact ⟨h1, h2⟩
  · have h3 : 2 ≤ b.natAbs := by omega
    have h4 : a.natAbs / b.natAbs ≤ a.natAbs / 2 := Nat.div_le_div_left h3 (by omega)
    omega

theorem tmod_range (a b : Int) (hb0 : b ≠ 0) (h1 : -9223372036854775808 ≤ b) (h2 : b ≤ 9223372036854775807) : -9223372036854775808 ≤ a.tmod b ∧ a.tmod b ≤ 9223372036854775807 := by
  have hn : (a.tmod b).natAbs = a.natAbs % b.natAbs := Int.natAbs_tmod a b
  have h3 : a.natAbs % b.natAbs < b.natAbs := Nat.mod_lt _ (by omega)
  omega

theorem tdiv_sgn (b1 b2 : Bool) (x y : Nat) : (sgn b1 x).tdiv (sgn b2 y) = sgn (!(b1 == b2)) (x / y) := by
  cases b1 <;> cases b2 <;> simp [sgn, Int.neg_tdiv, Int.tdiv_neg]
theorem tmod_sgn (b1 b2 : Bool) (x y : Nat) : (sgn b1 x).tmod (sgn b2 y) = sgn b1 (x % y) := by
  cases b1 <;> cases b2 <;> simp [sgn, Int.neg_tmod, Int.tmod_neg] <;> rfl

/-- The world behind the boxing of two numbers and the room for two results. -/
structure Boxes22 (w W : World) (x1 y1 x2 y2 : Value) : Prop where
  ext : Ext w W
  size : W.heap.size = w.heap.size + 4
  c0 : W.cell? ⟨w.heap.size, 0, none⟩ = some x1
  c1 : W.cell? ⟨w.heap.size, 1, none⟩ = some y1
  d0 : W.cell? ⟨w.heap.size + 1, 0, none⟩ = some x2
  d1 : W.cell? ⟨w.heap.size + 1, 1, none⟩ = some y2
  res : Res W (w.heap.size + 1 + 1)
  res' : Res W (w.heap.size + 1 + 1 + 1)

theorem boxes22 (w : World) (x1 y1 x2 y2 : Value) : Boxes22 w ((((w.alloc (.cells #[x1, y1] 24)).alloc (.cells #[x2, y2] 24)).alloc (.cells #[.int .i64 0, .slice none 0 0] 24)).alloc (.cells #[.int .i64 0, .slice none 0 0] 24)) x1 y1 x2 y2 := by
  have hb := boxes2 w x1 y1 x2 y2
  generalize hW : ((w.alloc (.cells #[x1, y1] 24)).alloc (.cells #[x2, y2] 24)).alloc (.cells #[.int .i64 0, .slice none 0 0] 24) = W at *
  have he := Ext.alloc W (.cells #[.int .i64 0, .slice none 0 0] 24)
  have hs := hb.size
  refine ⟨hb.ext.then _, by simp [hs], (he.cell (p := ⟨w.heap.size, 0, none⟩) (by show w.heap.size < _; omega)).trans hb.c0, (he.cell (p := ⟨w.heap.size, 1, none⟩) (by show w.heap.size < _; omega)).trans hb.c1, (he.cell (p := ⟨w.heap.size + 1, 0, none⟩) (by show w.heap.size + 1 < _; omega)).trans hb.d0, (he.cell (p := ⟨w.heap.size + 1, 1, none⟩) (by show w.heap.size + 1 < _; omega)).trans hb.d1, hb.res.ext he, ⟨by simp [hs], ?_⟩⟩
  have := heap_alloc_new W (.cells #[.int .i64 0, .slice none 0 0] 24)
  rw [hs] at this
  exact this

theorem Ext.put {w W : World} {g o : Nat} (h : Ext w W) (hg : w.heap.size ≤ g) (u : Value) : Ext w (W.setCell ⟨g, o, none⟩ u) := Below.setCell h (p := ⟨g, o, none⟩) hg u
theorem Ext.put2 {w W : World} {g o o' : Nat} (h : Ext w W) (hg : w.heap.size ≤ g) (u v : Value) : Ext w ((W.setCell ⟨g, o, none⟩ u).setCell ⟨g, o', none⟩ v) := (h.put hg u).put hg v

/-- Four cells stay while a later block is written. -/
theorem keepS {w' : World} {B g o : Nat} {u x y x2 y2 : Value} (hg : B + 1 < g) (h : w'.cell? ⟨B, 0, none⟩ = some x ∧ w'.cell? ⟨B, 1, none⟩ = some y ∧ w'.cell? ⟨B + 1, 0, none⟩ = some x2 ∧ w'.cell? ⟨B + 1, 1, none⟩ = some y2) :
    (w'.setCell ⟨g, o, none⟩ u).cell? ⟨B, 0, none⟩ = some x ∧ (w'.setCell ⟨g, o, none⟩ u).cell? ⟨B, 1, none⟩ = some y ∧ (w'.setCell ⟨g, o, none⟩ u).cell? ⟨B + 1, 0, none⟩ = some x2 ∧ (w'.setCell ⟨g, o, none⟩ u).cell? ⟨B + 1, 1, none⟩ = some y2 := by
  have hO : Only g w' (w'.setCell ⟨g, o, none⟩ u) := (Only.refl _ _).setCell _ _
  exact ⟨(World.cell?_of_block (a := ⟨B, 0, none⟩) (hO.block _ (by simp only; omega))).trans h.1, (World.cell?_of_block (a := ⟨B, 1, none⟩) (hO.block _ (by simp only; omega))).trans h.2.1, (World.cell?_of_block (a := ⟨B + 1, 0, none⟩) (hO.block _ (by simp only; omega))).trans h.2.2.1, (World.cell?_of_block (a := ⟨B + 1, 1, none⟩) (hO.block _ (by simp only; omega))).trans h.2.2.2⟩

theorem len_pos {l : List Nat} {z : Int} (hv : val l = z.natAbs) (hz : z ≠ 0) : 1 ≤ l.length := by
  cases l with
  | nil => simp [val] at hv; omega
  | cons x r => simp

theorem Of_from {w : World} (n : Int) (h1 : -9223372036854775808 ≤ n) (h2 : n ≤ 9223372036854775807) : ∀ wx : World, Ext w wx → Calls Tryz.prog 35 #[.int .i64 n] wx fun e w' => e = .returned (.agg #[.int .i64 n, .slice none 0 0]) ∧ Ext w w' ∧ Ext wx w' :=
  fun wx hx => (Of_any n h1 h2 wx).mono fun _ _ h => ⟨h.1, hx.trans h.2.2, h.2.2⟩

set_option maxHeartbeats 1600000 in
set_option maxRecDepth 100000 in
theorem divTowards_any (s1 s2 : Int) (a1 a2 : Option Addr) (n1 c1 n2 c2 : Nat) (z1 z2 : Int) (w : World) (h1 : IsInt w s1 a1 n1 c1 z1) (h2 : IsInt w s2 a2 n2 c2 z2) (K : Nat) (hK : K ≤ 4194304) (hf1 : Fit K z1) (hf2 : Fit K z2) (hz0 : z2 ≠ 0) :
    Calls Tryz.prog 66 #[.agg #[.int .i64 s1, .slice a1 n1 c1], .agg #[.int .i64 s2, .slice a2 n2 c2]] w fun e w' => ∃ (s3 : Int) (a3 : Option Addr) (n3 c3 : Nat) (s4 : Int) (a4 : Option Addr) (n4 c4 : Nat), e = .returned (.tuple #[.agg #[.int .i64 s3, .slice a3 n3 c3], .agg #[.int .i64 s4, .slice a4 n4 c4]]) ∧ IsInt w' s3 a3 n3 c3 (z1.tdiv z2) ∧ IsInt w' s4 a4 n4 c4 (z1.tmod z2) ∧ Ext w w' := by
  have Hf1 := hid hf1; have Hf2 := hid hf2; have H1 := hid h1; have H2 := hid h2
  have hz1 := h1.bool; have hz2 := h2.bool
  clear hf1 hf2 h1 h2
  by_cases hsh : (a1 = none ∧ a2 = none) ∧ s2 ≠ -1
  · obtain ⟨⟨rfl, rfl⟩, hs2⟩ := hsh
    obtain ⟨rfl, rfl, rfl, r1, r2⟩ := H1.out.none
    obtain ⟨rfl, rfl, rfl, r3, r4⟩ := H2.out.none
    clear hz1 hz2
    have hb2 : (s2 != -1) = true := by rw [bne_iff_ne]; exact hs2
    obtain ⟨q1, q2⟩ := tdiv_range s1 s2 hz0 hs2 r1 r2
    obtain ⟨q3, q4⟩ := tmod_range s1 s2 hz0 r3 r4
    obtain ⟨q, hq⟩ : ∃ q, s1.tdiv s2 = q := ⟨_, rfl⟩
    obtain ⟨r, hr⟩ : ∃ r, s1.tmod s2 = r := ⟨_, rfl⟩
    rw [hq] at q1 q2
    rw [hr] at q3 q4
    have hwq : IntKind.i64.wrap q = q := by rw [IntKind.wrap_i64]; omega
    have hwr : IntKind.i64.wrap r = r := by rw [IntKind.wrap_i64]; omega
    have hb0 : (s2 == 0) = false := by rw [beq_eq_false_iff_ne]; exact hz0
    rw [hq, hr]
    clear hs2
    go_enter Tryz.func66, Tryz.ntmps66
    go_wp2_with fail
    have hbx := boxes22 w (.int .i64 s1) (.slice none 0 0) (.int .i64 s2) (.slice none 0 0)
    generalize (((w.alloc (.cells #[.int .i64 s1, .slice none 0 0] 24)).alloc (.cells #[.int .i64 s2, .slice none 0 0] 24)).alloc (.cells #[.int .i64 0, .slice none 0 0] 24)).alloc (.cells #[.int .i64 0, .slice none 0 0] 24) = W0 at *
    have hB : w.heap.size + 1 < W0.heap.size := by have := hbx.size; omega
    refine (short_yes _ _ _ _ _ _ _).mono ?_
    rintro e we ⟨rfl, hxe⟩
    obtain ⟨y0, y1, y2, y3⟩ := keep4 hxe hB hbx.c0 hbx.c1 hbx.d0 hbx.d1
    have hBe : w.heap.size + 1 < we.heap.size := by have := hxe.size; omega
    have heed : Ext we we.drew := Below.drew (Ext.refl _)
    have Hq := hid (Of_from (w := we) q q1 q2); have Hr := hid (Of_from (w := we) r q3 q4)
    go_wp2_with fail
    go_region_held3 (fun w' => w'.cell? ⟨w.heap.size, 0, none⟩ = some (.int .i64 s1) ∧ w'.cell? ⟨w.heap.size, 1, none⟩ = some (.slice none 0 0) ∧ w'.cell? ⟨w.heap.size + 1, 0, none⟩ = some (.int .i64 s2) ∧ w'.cell? ⟨w.heap.size + 1, 1, none⟩ = some (.slice none 0 0)) (first | exact keep4 (by assumption) hBe y0 y1 y2 y3 | exact keepS (by omega) (keepS (by omega) (keep4 (by assumption) hBe y0 y1 y2 y3)) | exact keepS (by omega) (keepS (by omega) (keepS (by omega) (keepS (by omega) (keep4 (by assumption) hBe y0 y1 y2 y3)))))
      (first | (go_at_call_of 35 q; refine (Hq.out _ (by assumption)).mono ?_; rintro e wa ⟨rfl, hea, hxa⟩) | (go_at_call_of 35 r; refine (Hr.out _ (by assumption)).mono ?_; rintro e wb ⟨rfl, heb, hxb⟩; have hr4 := hbx.res.ext (hxe.trans heb); have hr5 := hbx.res'.ext (hxe.trans heb); have k0 := hr4.c0; have k1 := hr4.c1; have g0 := hr4.f0; have g1 := hr4.f1; have k2 := hr5.c0; have k3 := hr5.c1; have g2 := hr5.f0; have g3 := hr5.f1))
    all_goals
      go_wp2_with fail
      exact bodyPost_ret (v := .tuple #[.agg #[.int .i64 q, .slice none 0 0], .agg #[.int .i64 r, .slice none 0 0]]) (by simp [results, Tryz.results66, go_sem, k0, k1, k2, k3]) rfl
        ⟨q, none, 0, 0, r, none, 0, 0, rfl, IsInt.small _ _ q1 q2, IsInt.small _ _ q3 q4, (((hbx.ext.trans hxe).trans heb).put2 (by omega) _ _).put2 (by omega) _ _⟩
  · have hcase : (¬ (a1 = none ∧ a2 = none)) ∨ (a1 = none ∧ a2 = none ∧ s2 = -1) := by
      by_cases h : a1 = none ∧ a2 = none
      · right
        refine ⟨h.1, h.2, ?_⟩
        exact Decidable.byContradiction fun k => hsh ⟨h, k⟩
      · exact Or.inl h
    clear hsh
    obtain ⟨b1, hb1⟩ : ∃ b, decide (s1 < 0) = b := ⟨_, rfl⟩
    obtain ⟨b2, hb2⟩ : ∃ b, decide (s2 < 0) = b := ⟨_, rfl⟩
    have hn1 := fun w0 : World => negative_from (w := w0) s1 (.slice a1 n1 c1); have hn2 := fun w0 : World => negative_from (w := w0) s2 (.slice a2 n2 c2)
    rw [hb1] at hz1; rw [hb2] at hz2
    rw [hb1] at hn1; rw [hb2] at hn2
    have Hn1 := hid hn1; have Hn2 := hid hn2; have Hz1 := hid hz1; have Hz2 := hid hz2; have Hz0 := hid hz0
    clear hn1 hn2 hb1 hb2 hz1 hz2 hz0
    have Hsh : Hid (∀ wx : World, Calls Tryz.prog 68 #[.agg #[.int .i64 s1, .slice a1 n1 c1], .agg #[.int .i64 s2, .slice a2 n2 c2]] wx fun e w' => ∃ bb : Bool, e = .returned (.bool bb) ∧ (bb = true → s2 = -1) ∧ Ext wx w') := by
      intro wx
      rcases hcase with h | ⟨rfl, rfl, rfl⟩
      · exact (short_no s1 s2 a1 a2 n1 c1 n2 c2 wx h).mono fun _ _ k => ⟨false, k.1, (fun h => absurd h (by decide)), k.2⟩
      · exact (short_yes s1 (-1) n1 c1 n2 c2 wx).mono fun _ _ k => ⟨true, k.1, (fun _ => rfl), k.2⟩
    clear hcase
    go_enter Tryz.func66, Tryz.ntmps66
    go_wp2_with fail
    have hbx := boxes22 w (.int .i64 s1) (.slice a1 n1 c1) (.int .i64 s2) (.slice a2 n2 c2)
    generalize (((w.alloc (.cells #[.int .i64 s1, .slice a1 n1 c1] 24)).alloc (.cells #[.int .i64 s2, .slice a2 n2 c2] 24)).alloc (.cells #[.int .i64 0, .slice none 0 0] 24)).alloc (.cells #[.int .i64 0, .slice none 0 0] 24) = W0 at *
    have hB : w.heap.size + 1 < W0.heap.size := by have := hbx.size; omega
    refine (Hsh.out _).mono ?_
    rintro e we ⟨bb, rfl, hbb, hxe⟩
    obtain ⟨y0, y1, y2, y3⟩ := keep4 hxe hB hbx.c0 hbx.c1 hbx.d0 hbx.d1
    have hBe : w.heap.size + 1 < we.heap.size := by have := hxe.size; omega
    have Hw1 := hid (words_from (H1.out.ext (hbx.ext.trans hxe))); have Hw2 := hid (words_from (H2.out.ext (hbx.ext.trans hxe)))
    have heed : Ext we we.drew := Below.drew (Ext.refl _)
    cases bb
    case' true =>
      have hb2 : (s2 != -1) = false := by rw [hbb rfl]; rfl
    all_goals
      clear hbb
      go_wp2_with fail
      go_region_held3 (fun w' => w'.cell? ⟨w.heap.size, 0, none⟩ = some (.int .i64 s1) ∧ w'.cell? ⟨w.heap.size, 1, none⟩ = some (.slice a1 n1 c1) ∧ w'.cell? ⟨w.heap.size + 1, 0, none⟩ = some (.int .i64 s2) ∧ w'.cell? ⟨w.heap.size + 1, 1, none⟩ = some (.slice a2 n2 c2)) (exact keep4 (by assumption) hBe y0 y1 y2 y3)
        (first | (go_at_call_of 71 s1; refine (Hw1.out _ (by assumption)).mono ?_; rintro e wa ⟨p1, l1, m1, e1, rfl, hl1, hm1, he1, hsg1', hd1, hr1, Hv1, hea, hxa⟩; have Hl1 := hid hl1; clear hl1) | (go_at_call_of 71 a2; refine (Hw2.out _ (by assumption)).mono ?_; rintro e wb ⟨p2, l2, m2, e2, rfl, hl2, hm2, he2, hsg2', hd2, hr2, Hv2, heb, hxb⟩; have Hl2 := hid hl2; clear hl2) | (go_at_call 75; refine (divWords_any p1 p2 l1 l2 m2 m1 e1 e2 wb Hl1.out Hl2.out (hsg1'.ext hxb) hsg2' hd1 hd2 hr1 hr2 hm1 hm2 he1 (by rw [← Hl2.out]; exact len_pos Hv2.out Hz0.out) (by have := Hf1.out.len hr1 Hv1.out; have := Hl1.out; omega) (by have := Hf2.out.len hr2 Hv2.out; have := Hl2.out; omega)).mono ?_; rintro e wg ⟨v1, v2, rfl, hnq, hnr, hxg⟩; have heg := heb.trans hxg))
      obtain ⟨p3, l3, m3, e3, rfl, hl3, hm3, he3, hs3, hd3, hr3, hv3⟩ := hnq.named
      obtain ⟨p4, l4, m4, e4, rfl, hl4, hm4, he4, hs4, hd4, hr4, hv4⟩ := hnr.named
      have Hl3 := hid hl3; have Hl4 := hid hl4; have Hv3 := hid hv3; have Hv4 := hid hv4
      obtain ⟨x0, x1, x2, x3⟩ := keep4 heg hBe y0 y1 y2 y3
      have hBg : w.heap.size + 1 < wg.heap.size := by have := heg.size; omega
      have hegd : Ext wg wg.drew := Below.drew (Ext.refl _)
      have resA := hbx.res.ext (hxe.trans heg); have resB := hbx.res'.ext (hxe.trans heg)
      have HEg := hid ((hbx.ext.trans hxe).trans heg)
      have Hm1 := hid (Hn1.out wg); have Hm2 := hid (Hn2.out wg)
      have Hfq := hid (fromWords_from (w := wg) (!(b1 == b2))); have Hfr := hid (fromWords_from (w := wg) b1)
      clear y0 y1 y2 y3 hea heb heg hxa hxb hxg heed hnq hnr hl3 hl4 hv3 hv4
      go_wp2_with fail
      go_region_held3 (fun w' => w'.cell? ⟨w.heap.size, 0, none⟩ = some (.int .i64 s1) ∧ w'.cell? ⟨w.heap.size, 1, none⟩ = some (.slice a1 n1 c1) ∧ w'.cell? ⟨w.heap.size + 1, 0, none⟩ = some (.int .i64 s2) ∧ w'.cell? ⟨w.heap.size + 1, 1, none⟩ = some (.slice a2 n2 c2)) (first | exact keep4 (by assumption) hBg x0 x1 x2 x3 | exact keepS (by omega) (keepS (by omega) (keep4 (by assumption) hBg x0 x1 x2 x3)) | exact keepS (by omega) (keepS (by omega) (keepS (by omega) (keepS (by omega) (keep4 (by assumption) hBg x0 x1 x2 x3)))))
        (first | (go_at_call_of 43 s1; refine (Hm1.out _ (by assumption)).mono ?_; rintro e wc ⟨rfl, hec, hxc⟩) | (go_at_call_of 43 a2; refine (Hm2.out _ (by assumption)).mono ?_; rintro e wd ⟨rfl, hed, hxd⟩) | (go_at_call_of 62 p3; refine (Hfq.out _ p3 l3 m3 e3 (by assumption) Hl3.out (hs3.ext (by assumption)) hd3 hm3 he3).mono ?_; rintro e wp ⟨s5, a5, n5, c5, rfl, hI5, hep, hxp⟩) | (go_at_call_of 62 p4; refine (Hfr.out _ p4 l4 m4 e4 (by assumption) Hl4.out (hs4.ext (by assumption)) hd4 hm4 he4).mono ?_; rintro e wq ⟨s6, a6, n6, c6, rfl, hI6, heq, hxq⟩; have hr4' := resA.ext heq; have hr5' := resB.ext heq; have k0 := hr4'.c0; have k1 := hr4'.c1; have g0 := hr4'.f0; have g1 := hr4'.f1; have k2 := hr5'.c0; have k3 := hr5'.c1; have g2 := hr5'.f0; have g3 := hr5'.f1))
      all_goals
        go_wp2_with fail
        have hkk := Keep64.set4 (w := wq) (.i64 k0) (.slice k1) (.i64 k2) (.slice k3) (notW_i64 s5) (notW_slice a5 n5 c5) (notW_i64 s6) (.slice a6 n6 c6)
        exact bodyPost_ret (v := .tuple #[.agg #[.int .i64 s5, .slice a5 n5 c5], .agg #[.int .i64 s6, .slice a6 n6 c6]]) (by simp [results, Tryz.results66, go_sem, k0, k1, k2, k3]) rfl
          ⟨s5, a5, n5, c5, s6, a6, n6, c6, rfl, ((hI5.ext (hxc.trans hxq)).cast (by rw [Hz1.out, Hz2.out, tdiv_sgn, Hv3.out, Hv1.out, Hv2.out])).keep64 hkk, (hI6.cast (by rw [Hz1.out, Hz2.out, tmod_sgn, Hv4.out, Hv1.out, Hv2.out])).keep64 hkk, ((HEg.out.trans heq).put2 (by omega) _ _).put2 (by omega) _ _⟩

end Go.Proofs.YtdiojbgbeeojkaaGreatDoor
