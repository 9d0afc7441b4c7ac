/-
  Fractions: lowest, Over, Parts.
-/
import Derived.Test.YtdiojbgbeeojkaaGreatDoorMGcF

namespace Go.Proofs.YtdiojbgbeeojkaaGreatDoor
open Go.RowKit

/-- The cells of a fraction that is answered. -/
structure QRes (W : World) (g : Nat) : Prop where
  row : W.heap[g]? = some (.cells #[.int .i64 0, .slice none 0 0, .int .i64 0, .slice none 0 0] 26 (0, 0))
theorem QRes.lt {W : World} {g : Nat} (h : QRes W g) : g < W.heap.size := (Array.getElem?_eq_some_iff.1 h.row).1
theorem QRes.ext {W W' : World} {g : Nat} (h : QRes W g) (k : Ext W W') : QRes W' g := ⟨(k.block _ h.lt).trans h.row⟩
theorem QRes.put {W : World} {g h o : Nat} (hb : QRes W g) (hne : g ≠ h) (u : Value) : QRes (W.setCell ⟨h, o, none⟩ u) g := ⟨(Below.heap_setCell _ _ _ _ hne).trans hb.row⟩
theorem QRes.c0 {W : World} {g : Nat} (h : QRes W g) : W.cell? ⟨g, 0, none⟩ = some (.int .i64 0) := by rw [cell_of_row W g 0 _ _ (0, 0) h.row]; rfl
theorem QRes.c1 {W : World} {g : Nat} (h : QRes W g) : W.cell? ⟨g, 1, none⟩ = some (.slice none 0 0) := by rw [cell_of_row W g 1 _ _ (0, 0) h.row]; rfl
theorem QRes.c2 {W : World} {g : Nat} (h : QRes W g) : W.cell? ⟨g, 2, none⟩ = some (.int .i64 0) := by rw [cell_of_row W g 2 _ _ (0, 0) h.row]; rfl
theorem QRes.c3 {W : World} {g : Nat} (h : QRes W g) : W.cell? ⟨g, 3, none⟩ = some (.slice none 0 0) := by rw [cell_of_row W g 3 _ _ (0, 0) h.row]; rfl
theorem QRes.f0 {W : World} {g : Nat} (h : QRes W g) (o : Nat) : W.frozen? ⟨g, o, none⟩ = false := frozen_of_row W g o _ _ h.row

/-- p over q is z1 over z2 in lowest terms. -/
structure IsLow (z1 z2 p q : Int) : Prop where
  pos : 0 < q
  co : Nat.gcd p.natAbs q.natAbs = 1
  eq : p * z2 = q * z1
  le1 : p.natAbs ≤ z1.natAbs
  le2 : q.natAbs ≤ z2.natAbs
  ne : p ≠ 0

theorem IsLow.neg {z1 z2 p q : Int} (h : IsLow (-z1) (-z2) p q) : IsLow z1 z2 p q := by
  obtain ⟨h1, h2, h3, h4, h5, h6⟩ := h
  refine ⟨h1, h2, ?_, by omega, by omega, h6⟩
  rw [Int.mul_neg, Int.mul_neg] at h3
  omega

theorem IsDiv.exact {a q r : Int} {g : Nat} (hd : g ∣ a.natAbs) (h : IsDiv a (g : Int) q r) : a = q * (g : Int) := by
  obtain ⟨h1, h2, h3, _⟩ := h
  have h4 : (g : Int) ∣ a := Int.ofNat_dvd_left.2 hd
  have h5 : (g : Int) ∣ r := by
    have : r = a - q * (g : Int) := by omega
    rw [this]
    exact Int.dvd_sub h4 (Int.dvd_mul_left _ _)
  have h6 : r = 0 := by
    have h7 := Int.emod_eq_zero_of_dvd h5
    rw [Int.emod_eq_of_lt h2 (by simpa using h3)] at h7
    exact h7
  omega

theorem isLow_one {z1 z2 : Int} (h0 : z1 ≠ 0) (h : 0 < z2) (hg : Nat.gcd z1.natAbs z2.natAbs = 1) : IsLow z1 z2 z1 z2 :=
  ⟨h, hg, Int.mul_comm _ _, Nat.le_refl _, Nat.le_refl _, h0⟩

theorem isLow_div {z1 z2 p q r r' : Int} (h0 : z1 ≠ 0) (h : 0 < z2) (h1 : IsDiv z1 (Nat.gcd z1.natAbs z2.natAbs : Nat) p r) (h2 : IsDiv z2 (Nat.gcd z1.natAbs z2.natAbs : Nat) q r') : IsLow z1 z2 p q := by
  have hgp : 0 < Nat.gcd z1.natAbs z2.natAbs := Nat.gcd_pos_of_pos_left _ (by omega)
  have e1 := h1.exact (Nat.gcd_dvd_left _ _)
  have e2 := h2.exact (Nat.gcd_dvd_right _ _)
  have l1 := h1.le; have l2 := h2.le
  have hco := Nat.gcd_div (Nat.gcd_dvd_left z1.natAbs z2.natAbs) (Nat.gcd_dvd_right z1.natAbs z2.natAbs)
  rw [Nat.div_self hgp] at hco
  have n1 : z1.natAbs = p.natAbs * Nat.gcd z1.natAbs z2.natAbs := by
    conv => lhs; rw [e1]
    rw [Int.natAbs_mul, Int.natAbs_natCast]
  have n2 : z2.natAbs = q.natAbs * Nat.gcd z1.natAbs z2.natAbs := by
    conv => lhs; rw [e2]
    rw [Int.natAbs_mul, Int.natAbs_natCast]
  have d1 : z1.natAbs / Nat.gcd z1.natAbs z2.natAbs = p.natAbs := by
    conv => lhs; lhs; rw [n1]
    exact Nat.mul_div_cancel _ hgp
  have d2 : z2.natAbs / Nat.gcd z1.natAbs z2.natAbs = q.natAbs := by
    conv => lhs; lhs; rw [n2]
    exact Nat.mul_div_cancel _ hgp
  rw [d1, d2] at hco
  generalize Nat.gcd z1.natAbs z2.natAbs = g at *
  refine ⟨?_, hco, ?_, l1, l2, ?_⟩
  · apply Decidable.byContradiction
    intro hq
    have : q * (g : Int) ≤ 0 := Int.mul_nonpos_of_nonpos_of_nonneg (by omega) (by omega)
    omega
  · rw [e1, e2]
    rw [← Int.mul_assoc, ← Int.mul_assoc, Int.mul_comm p q]
  · intro hp
    rw [hp, Int.zero_mul] at e1
    exact h0 e1

end Go.Proofs.YtdiojbgbeeojkaaGreatDoor

/-
  Fractions: lowest.
-/
namespace Go.Proofs.YtdiojbgbeeojkaaGreatDoor
open Go.RowKit

set_option maxHeartbeats 3000000 in
set_option maxRecDepth 100000 in
theorem lowest_any (s1 s2 : Int) (a1 a2 : Option Addr) (n1 c1 n2 c2 : Nat) (z1 z2 : Int) (w : World) (h1 : IsInt w s1 a1 n1 c1 z1) (h2 : IsInt w s2 a2 n2 c2 z2) (K : Nat) (hK : K ≤ 4194304) (hK1 : 1 ≤ K) (hf1 : Fit K z1) (hf2 : Fit K z2) (hz2 : z2 ≠ 0) (hbr : Bru w) :
    Calls Tryz.prog 49 #[.agg #[.int .i64 s1, .slice a1 n1 c1], .agg #[.int .i64 s2, .slice a2 n2 c2]] w fun e w' => ∃ (s : Int) (a : Option Addr) (n c : Nat) (s' : Int) (a' : Option Addr) (n' c' : Nat) (p q : Int), e = .returned (.agg #[.int .i64 s, .slice a n c, .int .i64 s', .slice a' n' c']) ∧ IsInt w' s a n c p ∧ IsInt w' s' a' n' c' q ∧ (z1 = 0 → p = 0 ∧ q = 0) ∧ (z1 ≠ 0 → IsLow z1 z2 p q) ∧ Ext w w' := by
  have HfA := hid hf1; have HfB := hid hf2; have H1 := hid h1; have H2 := hid h2; have Hz2 := hid hz2; have Hbr := hid hbr
  have Hs1 := hid (Sign_any s1 (.slice a1 n1 c1)); have Hn2 := hid (negative_any s2 (.slice a2 n2 c2))
  have Hsg2 := hid h2.sign.1
  have hc1 := h1.cmp3
  obtain ⟨g1, hg1⟩ : ∃ g, cmp3 s1 0 = g := ⟨_, rfl⟩
  rw [hg1] at Hs1
  have hbx := boxed2 w (.int .i64 s1) (.slice a1 n1 c1) (.int .i64 s2) (.slice a2 n2 c2)
  have E0 := hbx.ext.then (.cells #[.int .i64 0, .slice none 0 0, .int .i64 0, .slice none 0 0] 26)
  have bxA := ((box_new w s1 a1 n1 c1).ext (Ext.alloc _ (.cells #[.int .i64 s2, .slice a2 n2 c2] 24))).ext (Ext.alloc _ (.cells #[.int .i64 0, .slice none 0 0, .int .i64 0, .slice none 0 0] 26))
  have bxB := (box_new (w.alloc (.cells #[.int .i64 s1, .slice a1 n1 c1] 24)) s2 a2 n2 c2).ext (Ext.alloc _ (.cells #[.int .i64 0, .slice none 0 0, .int .i64 0, .slice none 0 0] 26))
  rw [show (w.alloc (.cells #[.int .i64 s1, .slice a1 n1 c1] 24)).heap.size = w.heap.size + 1 from by simp] at bxB
  have qx : QRes (((w.alloc (.cells #[.int .i64 s1, .slice a1 n1 c1] 24)).alloc (.cells #[.int .i64 s2, .slice a2 n2 c2] 24)).alloc (.cells #[.int .i64 0, .slice none 0 0, .int .i64 0, .slice none 0 0] 26)) (w.heap.size + 1 + 1) := by
    have := heap_alloc_new ((w.alloc (.cells #[.int .i64 s1, .slice a1 n1 c1] 24)).alloc (.cells #[.int .i64 s2, .slice a2 n2 c2] 24)) (.cells #[.int .i64 0, .slice none 0 0, .int .i64 0, .slice none 0 0] 26)
    exact ⟨by simpa using this⟩
  by_cases hz1 : z1 = 0
  · have hg0 : g1 = 0 := by rw [← hg1, hc1, hz1]; decide
    subst hg0
    clear hc1 hg1 h1 h2 hf1 hf2 hbr hz2
    go_enter Tryz.func49, Tryz.ntmps49
    go_wp2_with fail
    generalize ((w.alloc (.cells #[.int .i64 s1, .slice a1 n1 c1] 24)).alloc (.cells #[.int .i64 s2, .slice a2 n2 c2] 24)).alloc (.cells #[.int .i64 0, .slice none 0 0, .int .i64 0, .slice none 0 0] 26) = W0 at *
    refine (Hs1.out _).mono ?_
    rintro e we ⟨rfl, hxe⟩
    have qe := qx.ext hxe
    have q0 := qe.c0; have q1 := qe.c1; have q2 := qe.c2; have q3 := qe.c3; have f0 := qe.f0 0; have f1 := qe.f0 1; have f2 := qe.f0 2; have f3 := qe.f0 3
    go_wp2_with fail
    exact bodyPost_ret (v := .agg #[.int .i64 0, .slice none 0 0, .int .i64 0, .slice none 0 0]) (by simp [results, Tryz.results49, go_sem, q0, q1, q2, q3]) rfl ⟨0, none, 0, 0, 0, none, 0, 0, 0, 0, rfl, IsInt.small _ _ (by omega) (by omega), IsInt.small _ _ (by omega) (by omega), fun _ => ⟨rfl, rfl⟩, fun h => absurd hz1 h, ((E0.trans hxe).put2 (by omega) _ _).put2 (by omega) _ _⟩
  · have hgn := Bx.sg hg1 hc1 hz1
    have Hz1 := hid hz1
    clear hc1 hg1 h1 h2 hf1 hf2 hbr hz2 hz1
    go_enter Tryz.func49, Tryz.ntmps49
    go_wp2_with fail
    generalize ((w.alloc (.cells #[.int .i64 s1, .slice a1 n1 c1] 24)).alloc (.cells #[.int .i64 s2, .slice a2 n2 c2] 24)).alloc (.cells #[.int .i64 0, .slice none 0 0, .int .i64 0, .slice none 0 0] 26) = W0 at *
    refine (Hs1.out _).mono ?_
    rintro e we ⟨rfl, hxe⟩
    have x2 := (bxB.ext hxe).c0; have x3 := (bxB.ext hxe).c1
    go_wp2_with fail
    refine (Hn2.out _).mono ?_
    rintro e wf ⟨rfl, hxf⟩
    have HEf : Hid (Ext w wf) := E0.trans (hxe.trans hxf)
    have bA := bxA.ext (hxe.trans hxf); have bB := bxB.ext (hxe.trans hxf); have qR := qx.ext (hxe.trans hxf)
    have I1 := H1.out.ext HEf.out; have I2 := H2.out.ext HEf.out
    clear x2 x3 bxA bxB qx hbx E0 hxe hxf
    by_cases hneg : s2 < 0
    · have hd2 : decide (s2 < 0) = true := decide_eq_true hneg
      have hz2n : z2 < 0 := Hsg2.out.1 hneg
      have HzB : Hid (0 < (-z2)) := by show _ < _; omega
      have HzA : Hid ((-z1) ≠ 0) := by show _ ≠ _; have := Hz1.out; omega
      have HLow : Hid (∀ p q, IsLow (-z1) (-z2) p q → IsLow z1 z2 p q) := fun _ _ h => h.neg
      have Hm1 := hid (Neg_from I1); have Hm2 := hid (Neg_from I2)
      rw [hd2]
      clear hd2 hneg hz2n
      have u0 := bA.c0; have u1 := bA.c1; have u2 := bB.c0; have u3 := bB.c1
      have hfd : Ext wf wf.drew := Below.drew (Ext.refl _)
      have hltR := qR.lt
      go_wp2_with fail
      go_region_with (first | (go_at_call_of 52 s1; refine (Hm1.out _ (by assumption)).mono ?_; rintro e w5 ⟨s5, a5, n5, c5, rfl, hI5, he5, hx5⟩; have v2 := cellKeep he5 (by omega) u2; have v3 := cellKeep he5 (by omega) u3) | (go_at_call_of 52 s2; refine (Hm2.out _ (by assumption)).mono ?_; rintro e w6 ⟨s6, a6, n6, c6, rfl, hI6, he6, hx6⟩; have bA6 := bA.ext he6; have bB6 := bB.ext he6; have k0 := bA6.c0; have k1 := bA6.c1; have g0 := bA6.f0; have g1 := bA6.f1; have k2 := bB6.c0; have k3 := bB6.c1; have g2 := bB6.f0; have g3 := bB6.f1))
      all_goals
        have qR6 := qR.ext he6
        have hkk := Keep64.set4 (w := w6) (.i64 k0) (.slice k1) (.i64 k2) (.slice k3) (notW_i64 s5) (notW_slice a5 n5 c5) (notW_i64 s6) (.slice a6 n6 c6)
        have bA7 := ((bA6.own s5 a5 n5 c5).put (h := w.heap.size + 1) (o := 0) (by omega) (.int .i64 s6)).put (h := w.heap.size + 1) (o := 1) (by omega) (.slice a6 n6 c6)
        have bB7 := ((bB6.put (h := w.heap.size) (o := 0) (by omega) (.int .i64 s5)).put (h := w.heap.size) (o := 1) (by omega) (.slice a5 n5 c5)).own s6 a6 n6 c6
        have qR7 := (((qR6.put (h := w.heap.size) (o := 0) (by omega) (.int .i64 s5)).put (h := w.heap.size) (o := 1) (by omega) (.slice a5 n5 c5)).put (h := w.heap.size + 1) (o := 0) (by omega) (.int .i64 s6)).put (h := w.heap.size + 1) (o := 1) (by omega) (.slice a6 n6 c6)
        have J5 := (hI5.ext hx6).keep64 hkk
        have J6 := hI6.keep64 hkk
        have E7 := ((HEf.out.trans he6).put2 (g := w.heap.size) (o := 0) (o' := 1) (by omega) (.int .i64 s5) (.slice a5 n5 c5)).put2 (g := w.heap.size + 1) (o := 0) (o' := 1) (by omega) (.int .i64 s6) (.slice a6 n6 c6)
        generalize hWc : (((w6.setCell ⟨w.heap.size, 0, none⟩ (.int .i64 s5)).setCell ⟨w.heap.size, 1, none⟩ (.slice a5 n5 c5)).setCell ⟨w.heap.size + 1, 0, none⟩ (.int .i64 s6)).setCell ⟨w.heap.size + 1, 1, none⟩ (.slice a6 n6 c6) = Wc at *
        clear hWc hkk k0 k1 k2 k3 g0 g1 g2 g3 bA6 bB6 qR6 bA bB qR u0 u1 u2 u3 hI5 hI6 he5 he6 hx5 hx6 hfd I1 I2 hltR
        have bA := bA7; have bB := bB7; have qR := qR7
        have HIA := hid J5; have HIB := hid J6; have HEc := hid E7
        have HfA := hid HfA.out.neg; have HfB := hid HfB.out.neg
        have Hbc := hid (bru_ext Hbr.out HEc.out)
        clear bA7 bB7 qR7 J5 J6 E7
        have Hg := hid (fun wx (hx : Ext Wc wx) => Gcd_any s5 s6 a5 a6 n5 c5 n6 c6 (-z1) (-z2) wx (HIA.out.ext hx) (HIB.out.ext hx) K hK hK1 HfA.out HfB.out HzA.out (by have := HzB.out; omega) (bru_ext Hbc.out hx))
        have k0 := bA.c0; have k1 := bA.c1; have k2 := bB.c0; have k3 := bB.c1
        go_wp2_with fail
        refine (Hg.out _ (Ext.refl _)).mono ?_
        rintro e wd ⟨s7, a7, n7, c7, rfl, hI7, hxd⟩
        have HI7 := hid hI7
        obtain ⟨G, hG⟩ : ∃ G, Nat.gcd (-z1).natAbs (-z2).natAbs = G := ⟨_, rfl⟩
        rw [hG] at HI7
        have HG := hid hG
        have HGp : Hid (0 < G) := by
          show _ < _
          rw [← hG]; exact Nat.gcd_pos_of_pos_left _ (by have := HzA.out; omega)
        have HfG : Hid (Fit K (G : Int)) := HfA.out.le (by
          rw [← hG]
          show Nat.gcd _ _ ≤ _
          exact Nat.gcd_le_left _ (by have := HzA.out; omega))
        have hE5 := hxd.then (.cells #[.int .i64 s7, .slice a7 n7 c7] 24)
        have b7 := box_new wd s7 a7 n7 c7
        have hszd : w.heap.size + 2 < wd.heap.size := by have := qR.lt; have := hxd.size; omega
        have bA5 := bA.ext hE5; have bB5 := bB.ext hE5; have qR5 := qR.ext hE5
        have I75 := HI7.out.ext (Ext.alloc wd (.cells #[.int .i64 s7, .slice a7 n7 c7] 24))
        clear hG hI7 k0 k1 k2 k3 bA bB qR
        go_wp2_with fail
        generalize wd.alloc (.cells #[.int .i64 s7, .slice a7 n7 c7] 24) = W5 at *
        have k4 := b7.c0; have k5 := b7.c1
        have hlt7 := b7.lt
        have Ho := hid (Of_from (w := W5) 1 (by omega) (by omega))
        have Hcmp := hid (fun wx (hx : Ext W5 wx) => Cmp_any s7 1 a7 none n7 c7 0 0 (G : Int) 1 wx (I75.ext hx) (IsInt.small _ _ (by omega) (by omega)) K hK HfG.out (Fit.one hK1))
        obtain ⟨cg, hcg⟩ : ∃ cg, cmp3 (G : Int) 1 = cg := ⟨_, rfl⟩
        rw [hcg] at Hcmp
        have h5d : Ext W5 W5.drew := Below.drew (Ext.refl _)
        go_region_held3 (fun w' => w'.cell? ⟨wd.heap.size, 0, none⟩ = some (.int .i64 s7) ∧ w'.cell? ⟨wd.heap.size, 1, none⟩ = some (.slice a7 n7 c7)) (exact ⟨cellKeep (W := W5) (by assumption) hlt7 k4, cellKeep (W := W5) (by assumption) hlt7 k5⟩)
          (first | (go_at_call 35; refine (Ho.out _ (by assumption)).mono ?_; rintro e wa ⟨rfl, hea, hxa⟩) | (go_at_call 34; refine (Hcmp.out _ (by assumption)).mono ?_; rintro e wb ⟨rfl, hxb⟩; have heb := hea.trans hxb))
        have bA6 := bA5.ext heb; have bB6 := bB5.ext heb; have qR6 := qR5.ext heb; have b76 := b7.ext heb
        have k0 := bA6.c0; have k1 := bA6.c1; have k2 := bB6.c0; have k3 := bB6.c1
        have HE6 : Hid (Ext Wc wb) := hE5.trans heb
        have hszb : w.heap.size + 2 < wb.heap.size := by have := qR6.lt; omega
        clear k4 k5 hxa hea hxb h5d
        by_cases hG1 : G = 1
        · have hcg0 : cg = 0 := by rw [← hcg, hG1]; decide
          subst hcg0
          have Hlow := hid (HLow.out _ _ (isLow_one HzA.out HzB.out (by rw [HG.out]; exact hG1)))
          have q0 := qR6.c0; have q1 := qR6.c1; have q2 := qR6.c2; have q3 := qR6.c3; have f0 := qR6.f0 0; have f1 := qR6.f0 1; have f2 := qR6.f0 2; have f3 := qR6.f0 3
          have hkk := Keep64.set4 (w := wb) (.i64 q0) (.slice q1) (.i64 q2) (.slice q3) (notW_i64 s5) (notW_slice a5 n5 c5) (notW_i64 s6) (.slice a6 n6 c6)
          clear hG1 hcg
          go_wp2_with fail
          exact bodyPost_ret (v := .agg #[.int .i64 s5, .slice a5 n5 c5, .int .i64 s6, .slice a6 n6 c6]) (by simp [results, Tryz.results49, go_sem, q0, q1, q2, q3]) rfl ⟨s5, a5, n5, c5, s6, a6, n6, c6, _, _, rfl, (HIA.out.ext HE6.out).keep64 hkk, (HIB.out.ext HE6.out).keep64 hkk, fun h => absurd h Hz1.out, fun _ => Hlow.out, ((HEc.out.trans HE6.out).put2 (by omega) _ _).put2 (by omega) _ _⟩
        · have hcgn : (cg == 0) = false := by
            rw [beq_eq_false_iff_ne, ← hcg]
            unfold cmp3
            have := HGp.out
            split
            · decide
            · split
              · decide
              · omega
          have k4 := b76.c0; have k5 := b76.c1
          have Hd1 := hid (fun wx (hx : Ext wb wx) => Div_any s5 s7 a5 a7 n5 c5 n7 c7 (-z1) (G : Int) wx ((HIA.out.ext HE6.out).ext hx) ((I75.ext heb).ext hx) K hK hK1 HfA.out HfG.out (by have := HGp.out; omega))
          have Hd2 := hid (fun wx (hx : Ext wb wx) => Div_any s6 s7 a6 a7 n6 c6 n7 c7 (-z2) (G : Int) wx ((HIB.out.ext HE6.out).ext hx) ((I75.ext heb).ext hx) K hK hK1 HfB.out HfG.out (by have := HGp.out; omega))
          clear hG1 hcg
          go_wp2_with fail
          refine (Hd1.out _ (Ext.refl _)).mono ?_
          rintro e wx ⟨s8, a8, n8, c8, s9, a9, n9, c9, p, r, rfl, hI8, hI9, hdv1, hxx⟩
          have HI8 := hid hI8; have Hdv1 := hid hdv1
          have hEx := ((hxx.then (.cells #[.int .i64 s8, .slice a8 n8 c8] 24)).then (.cells #[.int .i64 s9, .slice a9 n9 c9] 24)).then (.cells #[.int .i64 0, .int .i64 0] 28)
          have hEx' := ((Ext.alloc wx (.cells #[.int .i64 s8, .slice a8 n8 c8] 24)).then (.cells #[.int .i64 s9, .slice a9 n9 c9] 24)).then (.cells #[.int .i64 0, .int .i64 0] 28)
          have b8 := ((box_new wx s8 a8 n8 c8).ext (Ext.alloc _ (.cells #[.int .i64 s9, .slice a9 n9 c9] 24))).ext (Ext.alloc _ (.cells #[.int .i64 0, .int .i64 0] 28))
          have y2 := cellKeep hEx bB6.lt k2; have y3 := cellKeep hEx bB6.lt k3; have y4 := cellKeep hEx b76.lt k4; have y5 := cellKeep hEx b76.lt k5
          clear hI8 hI9 hdv1 k0 k1 k2 k3 k4 k5
          go_wp2_with fail
          generalize ((wx.alloc (.cells #[.int .i64 s8, .slice a8 n8 c8] 24)).alloc (.cells #[.int .i64 s9, .slice a9 n9 c9] 24)).alloc (.cells #[.int .i64 0, .int .i64 0] 28) = W8 at *
          refine (Hd2.out _ hEx).mono ?_
          rintro e wy ⟨t8, d8, m8, e8, t9, d9, m9, e9, q, r', rfl, hJ8, hJ9, hdv2, hxy⟩
          have HJ8 := hid hJ8; have Hdv2 := hid hdv2
          have hEy' := ((Ext.alloc wy (.cells #[.int .i64 t8, .slice d8 m8 e8] 24)).then (.cells #[.int .i64 t9, .slice d9 m9 e9] 24)).then (.cells #[.int .i64 0, .int .i64 0] 28)
          have c8' := ((box_new wy t8 d8 m8 e8).ext (Ext.alloc _ (.cells #[.int .i64 t9, .slice d9 m9 e9] 24))).ext (Ext.alloc _ (.cells #[.int .i64 0, .int .i64 0] 28))
          have b9 := b8.ext (hxy.trans hEy')
          have qR9 := qR6.ext (hEx.trans (hxy.trans hEy'))
          have HE9 : Hid (Ext w _) := (HEc.out.trans HE6.out).trans (hEx.trans (hxy.trans hEy'))
          have J9 := HJ8.out.ext hEy'
          have I9 := HI8.out.ext (hEx'.trans (hxy.trans hEy'))
          clear hJ8 hJ9 hdv2 y2 y3 y4 y5
          have m0 := b9.c0; have m1 := b9.c1; have m2 := c8'.c0; have m3 := c8'.c1
          have q0 := qR9.c0; have q1 := qR9.c1; have q2 := qR9.c2; have q3 := qR9.c3; have f0 := qR9.f0 0; have f1 := qR9.f0 1; have f2 := qR9.f0 2; have f3 := qR9.f0 3
          have hkk := Keep64.set4 (.i64 q0) (.slice q1) (.i64 q2) (.slice q3) (notW_i64 s8) (notW_slice a8 n8 c8) (notW_i64 t8) (.slice d8 m8 e8)
          have Hlow := hid (HLow.out _ _ (isLow_div HzA.out HzB.out (by rw [HG.out]; exact Hdv1.out) (by rw [HG.out]; exact Hdv2.out)))
          go_wp2_with fail
          exact bodyPost_ret (v := .agg #[.int .i64 s8, .slice a8 n8 c8, .int .i64 t8, .slice d8 m8 e8]) (by simp [results, Tryz.results49, go_sem, q0, q1, q2, q3]) rfl ⟨s8, a8, n8, c8, t8, d8, m8, e8, _, _, rfl, I9.keep64 hkk, J9.keep64 hkk, fun h => absurd h Hz1.out, fun _ => Hlow.out, (HE9.out.put2 (by omega) _ _).put2 (by omega) _ _⟩
    · have hd2 : decide (s2 < 0) = false := decide_eq_false hneg
      have HzB : Hid (0 < z2) := by show _ < _; have := Hz2.out; have := Hsg2.out; omega
      have HzA := Hz1
      have HLow : Hid (∀ p q, IsLow z1 z2 p q → IsLow z1 z2 p q) := fun _ _ h => h
      obtain ⟨Wc, hWc⟩ : ∃ Wc, wf = Wc := ⟨_, rfl⟩
      subst hWc
      have HIA := hid I1; have HIB := hid I2; have HEc := HEf
      have Hbc := hid (bru_ext Hbr.out HEc.out)
      rw [hd2]
      clear hd2 hneg I1 I2
      have Hg := hid (fun wx (hx : Ext wf wx) => Gcd_any s1 s2 a1 a2 n1 c1 n2 c2 z1 z2 wx (HIA.out.ext hx) (HIB.out.ext hx) K hK hK1 HfA.out HfB.out HzA.out (by have := HzB.out; omega) (bru_ext Hbc.out hx))
      have k0 := bA.c0; have k1 := bA.c1; have k2 := bB.c0; have k3 := bB.c1
      go_wp2_with fail
      refine (Hg.out _ (Ext.refl _)).mono ?_
      rintro e wd ⟨s7, a7, n7, c7, rfl, hI7, hxd⟩
      have HI7 := hid hI7
      obtain ⟨G, hG⟩ : ∃ G, Nat.gcd z1.natAbs z2.natAbs = G := ⟨_, rfl⟩
      rw [hG] at HI7
      have HG := hid hG
      have HGp : Hid (0 < G) := by
        show _ < _
        rw [← hG]; exact Nat.gcd_pos_of_pos_left _ (by have := HzA.out; omega)
      have HfG : Hid (Fit K (G : Int)) := HfA.out.le (by
        rw [← hG]
        show Nat.gcd _ _ ≤ _
        exact Nat.gcd_le_left _ (by have := HzA.out; omega))
      have hE5 := hxd.then (.cells #[.int .i64 s7, .slice a7 n7 c7] 24)
      have b7 := box_new wd s7 a7 n7 c7
      have hszd : w.heap.size + 2 < wd.heap.size := by have := qR.lt; have := hxd.size; omega
      have bA5 := bA.ext hE5; have bB5 := bB.ext hE5; have qR5 := qR.ext hE5
      have I75 := HI7.out.ext (Ext.alloc wd (.cells #[.int .i64 s7, .slice a7 n7 c7] 24))
      clear hG hI7 k0 k1 k2 k3 bA bB qR
      go_wp2_with fail
      generalize wd.alloc (.cells #[.int .i64 s7, .slice a7 n7 c7] 24) = W5 at *
      have k4 := b7.c0; have k5 := b7.c1
      have hlt7 := b7.lt
      have Ho := hid (Of_from (w := W5) 1 (by omega) (by omega))
      have Hcmp := hid (fun wx (hx : Ext W5 wx) => Cmp_any s7 1 a7 none n7 c7 0 0 (G : Int) 1 wx (I75.ext hx) (IsInt.small _ _ (by omega) (by omega)) K hK HfG.out (Fit.one hK1))
      obtain ⟨cg, hcg⟩ : ∃ cg, cmp3 (G : Int) 1 = cg := ⟨_, rfl⟩
      rw [hcg] at Hcmp
      have h5d : Ext W5 W5.drew := Below.drew (Ext.refl _)
      go_region_held3 (fun w' => w'.cell? ⟨wd.heap.size, 0, none⟩ = some (.int .i64 s7) ∧ w'.cell? ⟨wd.heap.size, 1, none⟩ = some (.slice a7 n7 c7)) (exact ⟨cellKeep (W := W5) (by assumption) hlt7 k4, cellKeep (W := W5) (by assumption) hlt7 k5⟩)
        (first | (go_at_call 35; refine (Ho.out _ (by assumption)).mono ?_; rintro e wa ⟨rfl, hea, hxa⟩) | (go_at_call 34; refine (Hcmp.out _ (by assumption)).mono ?_; rintro e wb ⟨rfl, hxb⟩; have heb := hea.trans hxb))
      have bA6 := bA5.ext heb; have bB6 := bB5.ext heb; have qR6 := qR5.ext heb; have b76 := b7.ext heb
      have k0 := bA6.c0; have k1 := bA6.c1; have k2 := bB6.c0; have k3 := bB6.c1
      have HE6 : Hid (Ext wf wb) := hE5.trans heb
      have hszb : w.heap.size + 2 < wb.heap.size := by have := qR6.lt; omega
      clear k4 k5 hxa hea hxb h5d
      by_cases hG1 : G = 1
      · have hcg0 : cg = 0 := by rw [← hcg, hG1]; decide
        subst hcg0
        have Hlow := hid (HLow.out _ _ (isLow_one HzA.out HzB.out (by rw [HG.out]; exact hG1)))
        have q0 := qR6.c0; have q1 := qR6.c1; have q2 := qR6.c2; have q3 := qR6.c3; have f0 := qR6.f0 0; have f1 := qR6.f0 1; have f2 := qR6.f0 2; have f3 := qR6.f0 3
        have hkk := Keep64.set4 (w := wb) (.i64 q0) (.slice q1) (.i64 q2) (.slice q3) (notW_i64 s1) (notW_slice a1 n1 c1) (notW_i64 s2) (.slice a2 n2 c2)
        clear hG1 hcg
        go_wp2_with fail
        exact bodyPost_ret (v := .agg #[.int .i64 s1, .slice a1 n1 c1, .int .i64 s2, .slice a2 n2 c2]) (by simp [results, Tryz.results49, go_sem, q0, q1, q2, q3]) rfl ⟨s1, a1, n1, c1, s2, a2, n2, c2, _, _, rfl, (HIA.out.ext HE6.out).keep64 hkk, (HIB.out.ext HE6.out).keep64 hkk, fun h => absurd h Hz1.out, fun _ => Hlow.out, ((HEc.out.trans HE6.out).put2 (by omega) _ _).put2 (by omega) _ _⟩
      · have hcgn : (cg == 0) = false := by
          rw [beq_eq_false_iff_ne, ← hcg]
          unfold cmp3
          have := HGp.out
          split
          · decide
          · split
            · decide
            · omega
        have k4 := b76.c0; have k5 := b76.c1
        have Hd1 := hid (fun wx (hx : Ext wb wx) => Div_any s1 s7 a1 a7 n1 c1 n7 c7 z1 (G : Int) wx ((HIA.out.ext HE6.out).ext hx) ((I75.ext heb).ext hx) K hK hK1 HfA.out HfG.out (by have := HGp.out; omega))
        have Hd2 := hid (fun wx (hx : Ext wb wx) => Div_any s2 s7 a2 a7 n2 c2 n7 c7 z2 (G : Int) wx ((HIB.out.ext HE6.out).ext hx) ((I75.ext heb).ext hx) K hK hK1 HfB.out HfG.out (by have := HGp.out; omega))
        clear hG1 hcg
        go_wp2_with fail
        refine (Hd1.out _ (Ext.refl _)).mono ?_
        rintro e wx ⟨s8, a8, n8, c8, s9, a9, n9, c9, p, r, rfl, hI8, hI9, hdv1, hxx⟩
        have HI8 := hid hI8; have Hdv1 := hid hdv1
        have hEx := ((hxx.then (.cells #[.int .i64 s8, .slice a8 n8 c8] 24)).then (.cells #[.int .i64 s9, .slice a9 n9 c9] 24)).then (.cells #[.int .i64 0, .int .i64 0] 28)
        have hEx' := ((Ext.alloc wx (.cells #[.int .i64 s8, .slice a8 n8 c8] 24)).then (.cells #[.int .i64 s9, .slice a9 n9 c9] 24)).then (.cells #[.int .i64 0, .int .i64 0] 28)
        have b8 := ((box_new wx s8 a8 n8 c8).ext (Ext.alloc _ (.cells #[.int .i64 s9, .slice a9 n9 c9] 24))).ext (Ext.alloc _ (.cells #[.int .i64 0, .int .i64 0] 28))
        have y2 := cellKeep hEx bB6.lt k2; have y3 := cellKeep hEx bB6.lt k3; have y4 := cellKeep hEx b76.lt k4; have y5 := cellKeep hEx b76.lt k5
        clear hI8 hI9 hdv1 k0 k1 k2 k3 k4 k5
        go_wp2_with fail
        generalize ((wx.alloc (.cells #[.int .i64 s8, .slice a8 n8 c8] 24)).alloc (.cells #[.int .i64 s9, .slice a9 n9 c9] 24)).alloc (.cells #[.int .i64 0, .int .i64 0] 28) = W8 at *
        refine (Hd2.out _ hEx).mono ?_
        rintro e wy ⟨t8, d8, m8, e8, t9, d9, m9, e9, q, r', rfl, hJ8, hJ9, hdv2, hxy⟩
        have HJ8 := hid hJ8; have Hdv2 := hid hdv2
        have hEy' := ((Ext.alloc wy (.cells #[.int .i64 t8, .slice d8 m8 e8] 24)).then (.cells #[.int .i64 t9, .slice d9 m9 e9] 24)).then (.cells #[.int .i64 0, .int .i64 0] 28)
        have c8' := ((box_new wy t8 d8 m8 e8).ext (Ext.alloc _ (.cells #[.int .i64 t9, .slice d9 m9 e9] 24))).ext (Ext.alloc _ (.cells #[.int .i64 0, .int .i64 0] 28))
        have b9 := b8.ext (hxy.trans hEy')
        have qR9 := qR6.ext (hEx.trans (hxy.trans hEy'))
        have HE9 : Hid (Ext w _) := (HEc.out.trans HE6.out).trans (hEx.trans (hxy.trans hEy'))
        have J9 := HJ8.out.ext hEy'
        have I9 := HI8.out.ext (hEx'.trans (hxy.trans hEy'))
        clear hJ8 hJ9 hdv2 y2 y3 y4 y5
        have m0 := b9.c0; have m1 := b9.c1; have m2 := c8'.c0; have m3 := c8'.c1
        have q0 := qR9.c0; have q1 := qR9.c1; have q2 := qR9.c2; have q3 := qR9.c3; have f0 := qR9.f0 0; have f1 := qR9.f0 1; have f2 := qR9.f0 2; have f3 := qR9.f0 3
        have hkk := Keep64.set4 (.i64 q0) (.slice q1) (.i64 q2) (.slice q3) (notW_i64 s8) (notW_slice a8 n8 c8) (notW_i64 t8) (.slice d8 m8 e8)
        have Hlow := hid (HLow.out _ _ (isLow_div HzA.out HzB.out (by rw [HG.out]; exact Hdv1.out) (by rw [HG.out]; exact Hdv2.out)))
        go_wp2_with fail
        exact bodyPost_ret (v := .agg #[.int .i64 s8, .slice a8 n8 c8, .int .i64 t8, .slice d8 m8 e8]) (by simp [results, Tryz.results49, go_sem, q0, q1, q2, q3]) rfl ⟨s8, a8, n8, c8, t8, d8, m8, e8, _, _, rfl, I9.keep64 hkk, J9.keep64 hkk, fun h => absurd h Hz1.out, fun _ => Hlow.out, (HE9.out.put2 (by omega) _ _).put2 (by omega) _ _⟩

end Go.Proofs.YtdiojbgbeeojkaaGreatDoor

/-
  Fractions: Over, Parts.
-/
namespace Go.Proofs.YtdiojbgbeeojkaaGreatDoor
open Go.RowKit

set_option maxHeartbeats 2000000 in
set_option maxRecDepth 100000 in
theorem Over_any (s1 s2 : Int) (a1 a2 : Option Addr) (n1 c1 n2 c2 : Nat) (z1 z2 : Int) (w : World) (h1 : IsInt w s1 a1 n1 c1 z1) (h2 : IsInt w s2 a2 n2 c2 z2) (K : Nat) (hK : K ≤ 4194304) (hK1 : 1 ≤ K) (hf1 : Fit K z1) (hf2 : Fit K z2) (hz2 : z2 ≠ 0) (hbr : Bru w) :
    Calls Tryz.prog 25 #[.agg #[.int .i64 s1, .slice a1 n1 c1], .agg #[.int .i64 s2, .slice a2 n2 c2]] w fun e w' => ∃ (s : Int) (a : Option Addr) (n c : Nat) (s' : Int) (a' : Option Addr) (n' c' : Nat) (p q : Int), e = .returned (.tuple #[.agg #[.int .i64 s, .slice a n c, .int .i64 s', .slice a' n' c'], .agg #[.int .i64 0, .int .i64 0]]) ∧ IsInt w' s a n c p ∧ IsInt w' s' a' n' c' q ∧ (z1 = 0 → p = 0 ∧ q = 0) ∧ (z1 ≠ 0 → IsLow z1 z2 p q) ∧ Ext w w' := by
  have Hs2 := hid (Sign_any s2 (.slice a2 n2 c2))
  have Hlo := hid (fun wx (hx : Ext w wx) => lowest_any s1 s2 a1 a2 n1 c1 n2 c2 z1 z2 wx (h1.ext hx) (h2.ext hx) K hK hK1 hf1 hf2 hz2 (bru_ext hbr hx))
  have hc2 := h2.cmp3
  obtain ⟨g2, hg2⟩ : ∃ g, cmp3 s2 0 = g := ⟨_, rfl⟩
  rw [hg2] at Hs2
  have hgn := Bx.sg hg2 hc2 hz2
  clear h1 h2 hf1 hf2 hz2 hbr hc2 hg2
  have hbx := boxed2 w (.int .i64 s1) (.slice a1 n1 c1) (.int .i64 s2) (.slice a2 n2 c2)
  have E0 := (hbx.ext.then (.cells #[.int .i64 0, .slice none 0 0, .int .i64 0, .slice none 0 0] 26)).then (.cells #[.int .i64 0, .int .i64 0] 28)
  have bxA := (((box_new w s1 a1 n1 c1).ext (Ext.alloc _ (.cells #[.int .i64 s2, .slice a2 n2 c2] 24))).ext (Ext.alloc _ (.cells #[.int .i64 0, .slice none 0 0, .int .i64 0, .slice none 0 0] 26))).ext (Ext.alloc _ (.cells #[.int .i64 0, .int .i64 0] 28))
  have bxB := ((box_new (w.alloc (.cells #[.int .i64 s1, .slice a1 n1 c1] 24)) s2 a2 n2 c2).ext (Ext.alloc _ (.cells #[.int .i64 0, .slice none 0 0, .int .i64 0, .slice none 0 0] 26))).ext (Ext.alloc _ (.cells #[.int .i64 0, .int .i64 0] 28))
  rw [show (w.alloc (.cells #[.int .i64 s1, .slice a1 n1 c1] 24)).heap.size = w.heap.size + 1 from by simp] at bxB
  have qx : QRes ((((w.alloc (.cells #[.int .i64 s1, .slice a1 n1 c1] 24)).alloc (.cells #[.int .i64 s2, .slice a2 n2 c2] 24)).alloc (.cells #[.int .i64 0, .slice none 0 0, .int .i64 0, .slice none 0 0] 26)).alloc (.cells #[.int .i64 0, .int .i64 0] 28)) (w.heap.size + 1 + 1) := by
    have := heap_alloc_new ((w.alloc (.cells #[.int .i64 s1, .slice a1 n1 c1] 24)).alloc (.cells #[.int .i64 s2, .slice a2 n2 c2] 24)) (.cells #[.int .i64 0, .slice none 0 0, .int .i64 0, .slice none 0 0] 26)
    have q : QRes (((w.alloc (.cells #[.int .i64 s1, .slice a1 n1 c1] 24)).alloc (.cells #[.int .i64 s2, .slice a2 n2 c2] 24)).alloc (.cells #[.int .i64 0, .slice none 0 0, .int .i64 0, .slice none 0 0] 26)) (w.heap.size + 1 + 1) := ⟨by simpa using this⟩
    exact q.ext (Ext.alloc _ _)
  have fx : FRes ((((w.alloc (.cells #[.int .i64 s1, .slice a1 n1 c1] 24)).alloc (.cells #[.int .i64 s2, .slice a2 n2 c2] 24)).alloc (.cells #[.int .i64 0, .slice none 0 0, .int .i64 0, .slice none 0 0] 26)).alloc (.cells #[.int .i64 0, .int .i64 0] 28)) (w.heap.size + 1 + 1 + 1) := by
    have := heap_alloc_new (((w.alloc (.cells #[.int .i64 s1, .slice a1 n1 c1] 24)).alloc (.cells #[.int .i64 s2, .slice a2 n2 c2] 24)).alloc (.cells #[.int .i64 0, .slice none 0 0, .int .i64 0, .slice none 0 0] 26)) (.cells #[.int .i64 0, .int .i64 0] 28)
    exact ⟨by simp, by simpa using this⟩
  go_enter Tryz.func25, Tryz.ntmps25
  go_wp2_with fail
  generalize (((w.alloc (.cells #[.int .i64 s1, .slice a1 n1 c1] 24)).alloc (.cells #[.int .i64 s2, .slice a2 n2 c2] 24)).alloc (.cells #[.int .i64 0, .slice none 0 0, .int .i64 0, .slice none 0 0] 26)).alloc (.cells #[.int .i64 0, .int .i64 0] 28) = W0 at *
  refine (Hs2.out _).mono ?_
  rintro e we ⟨rfl, hxe⟩
  have bA := bxA.ext hxe; have bB := bxB.ext hxe
  have x0 := bA.c0; have x1 := bA.c1; have x2 := bB.c0; have x3 := bB.c1
  go_wp2_with fail
  refine (Hlo.out _ (E0.trans hxe)).mono ?_
  rintro e wf ⟨s, a, n, c, s', a', n', c', p, q, rfl, hp, hq, hz, hnz, hxf⟩
  have qe := qx.ext (hxe.trans hxf); have fe := fx.ext (hxe.trans hxf)
  have q0 := qe.c0; have q1 := qe.c1; have q2 := qe.c2; have q3 := qe.c3; have f0 := qe.f0 0; have f1 := qe.f0 1; have f2 := qe.f0 2; have f3 := qe.f0 3
  have q4 := fe.c0; have q5 := fe.c1; have f4 := fe.f0; have f5 := fe.f1
  have hkk := Keep64.set6 (.i64 q0) (.slice q1) (.i64 q2) (.slice q3) (.i64 q4) (.i64 q5) (notW_i64 s) (notW_slice a n c) (notW_i64 s') (notW_slice a' n' c') (notW_i64 0) (.int .i64 0)
  have HE := hid (E0.trans (hxe.trans hxf))
  have Hz := hid hz; have Hnz := hid hnz
  clear x0 x1 x2 x3 hz hnz
  go_wp2_with fail
  exact bodyPost_ret (v := .tuple #[.agg #[.int .i64 s, .slice a n c, .int .i64 s', .slice a' n' c'], .agg #[.int .i64 0, .int .i64 0]]) (by simp [results, Tryz.results25, go_sem, q0, q1, q2, q3, q4, q5]) rfl ⟨s, a, n, c, s', a', n', c', p, q, rfl, hp.keep64 hkk, hq.keep64 hkk, Hz.out, Hnz.out, ((HE.out.put2 (by omega) _ _).put2 (by omega) _ _).put2 (by omega) _ _⟩

set_option maxHeartbeats 2000000 in
set_option maxRecDepth 100000 in
theorem Parts_any (s s' : Int) (a a' : Option Addr) (n c n' c' : Nat) (p q : Int) (w : World) (h1 : IsInt w s a n c p) (h2 : IsInt w s' a' n' c' q) :
    Calls Tryz.prog 10 #[.agg #[.int .i64 s, .slice a n c, .int .i64 s', .slice a' n' c']] w fun e w' => ∃ (s3 : Int) (a3 : Option Addr) (n3 c3 : Nat) (s4 : Int) (a4 : Option Addr) (n4 c4 : Nat), e = .returned (.tuple #[.agg #[.int .i64 s3, .slice a3 n3 c3], .agg #[.int .i64 s4, .slice a4 n4 c4]]) ∧ IsInt w' s3 a3 n3 c3 p ∧ IsInt w' s4 a4 n4 c4 (if p = 0 then 1 else q) ∧ Ext w w' := by
  have H1 := hid h1; have H2 := hid h2
  have Hs := hid (Sign_any s (.slice a n c))
  have hc := h1.cmp3
  obtain ⟨g, hg⟩ : ∃ g, cmp3 s 0 = g := ⟨_, rfl⟩
  rw [hg] at Hs
  have E0 := ((Ext.alloc w (.cells #[.int .i64 s, .slice a n c, .int .i64 s', .slice a' n' c'] 26)).then (.cells #[.int .i64 0, .slice none 0 0] 24)).then (.cells #[.int .i64 0, .slice none 0 0] 24)
  have rA : Res (((w.alloc (.cells #[.int .i64 s, .slice a n c, .int .i64 s', .slice a' n' c'] 26)).alloc (.cells #[.int .i64 0, .slice none 0 0] 24)).alloc (.cells #[.int .i64 0, .slice none 0 0] 24)) (w.heap.size + 1) := by
    have := (res_new (w.alloc (.cells #[.int .i64 s, .slice a n c, .int .i64 s', .slice a' n' c'] 26))).ext (Ext.alloc _ (.cells #[.int .i64 0, .slice none 0 0] 24))
    simpa using this
  have rB : Res (((w.alloc (.cells #[.int .i64 s, .slice a n c, .int .i64 s', .slice a' n' c'] 26)).alloc (.cells #[.int .i64 0, .slice none 0 0] 24)).alloc (.cells #[.int .i64 0, .slice none 0 0] 24)) (w.heap.size + 1 + 1) := by
    have := res_new ((w.alloc (.cells #[.int .i64 s, .slice a n c, .int .i64 s', .slice a' n' c'] 26)).alloc (.cells #[.int .i64 0, .slice none 0 0] 24))
    simpa using this
  have hrow : (((w.alloc (.cells #[.int .i64 s, .slice a n c, .int .i64 s', .slice a' n' c'] 26)).alloc (.cells #[.int .i64 0, .slice none 0 0] 24)).alloc (.cells #[.int .i64 0, .slice none 0 0] 24)).heap[w.heap.size]? = some (.cells #[.int .i64 s, .slice a n c, .int .i64 s', .slice a' n' c'] 26 (0, 0)) :=
    (((Ext.alloc _ _).block _ (by simp; omega)).trans ((Ext.alloc _ _).block _ (by simp))).trans (heap_alloc_new w _)
  have hlt : w.heap.size + 2 < (((w.alloc (.cells #[.int .i64 s, .slice a n c, .int .i64 s', .slice a' n' c'] 26)).alloc (.cells #[.int .i64 0, .slice none 0 0] 24)).alloc (.cells #[.int .i64 0, .slice none 0 0] 24)).heap.size := by simp
  by_cases hp : p = 0
  · have hg0 : g = 0 := by rw [← hg, hc, hp]; decide
    subst hg0
    rw [if_pos hp]
    clear h1 h2 hc hg
    go_enter Tryz.func10, Tryz.ntmps10
    go_wp2_with fail
    generalize ((w.alloc (.cells #[.int .i64 s, .slice a n c, .int .i64 s', .slice a' n' c'] 26)).alloc (.cells #[.int .i64 0, .slice none 0 0] 24)).alloc (.cells #[.int .i64 0, .slice none 0 0] 24) = W0 at *
    refine (Hs.out _).mono ?_
    rintro e we ⟨rfl, hxe⟩
    go_wp2_with fail
    refine (Of_any 1 (by omega) (by omega) we).mono ?_
    rintro e wf ⟨rfl, _, hxf⟩
    have r1 := rA.ext (hxe.trans hxf); have r2 := rB.ext (hxe.trans hxf)
    have k0 := r1.c0; have k1 := r1.c1; have g0 := r1.f0; have g1 := r1.f1; have k2 := r2.c0; have k3 := r2.c1; have g2 := r2.f0; have g3 := r2.f1
    go_wp2_with fail
    exact bodyPost_ret (v := .tuple #[.agg #[.int .i64 0, .slice none 0 0], .agg #[.int .i64 1, .slice none 0 0]]) (by simp [results, Tryz.results10, go_sem, k0, k1, k2, k3]) rfl ⟨0, none, 0, 0, 1, none, 0, 0, rfl, by rw [hp]; exact IsInt.small _ _ (by omega) (by omega), IsInt.small _ _ (by omega) (by omega), ((E0.trans (hxe.trans hxf)).put2 (by omega) _ _).put2 (by omega) _ _⟩
  · have hgn := Bx.sg hg hc hp
    rw [if_neg hp]
    clear h1 h2 hc hg hp
    go_enter Tryz.func10, Tryz.ntmps10
    go_wp2_with fail
    generalize ((w.alloc (.cells #[.int .i64 s, .slice a n c, .int .i64 s', .slice a' n' c'] 26)).alloc (.cells #[.int .i64 0, .slice none 0 0] 24)).alloc (.cells #[.int .i64 0, .slice none 0 0] 24) = W0 at *
    refine (Hs.out _).mono ?_
    rintro e we ⟨rfl, hxe⟩
    have hre : we.heap[w.heap.size]? = some (.cells #[.int .i64 s, .slice a n c, .int .i64 s', .slice a' n' c'] 26 (0, 0)) := (hxe.block _ (by omega)).trans hrow
    have m0 : we.cell? ⟨w.heap.size, 0, none⟩ = some (.int .i64 s) := by rw [cell_of_row we _ 0 _ _ (0, 0) hre]; rfl
    have m1 : we.cell? ⟨w.heap.size, 1, none⟩ = some (.slice a n c) := by rw [cell_of_row we _ 1 _ _ (0, 0) hre]; rfl
    have m2 : we.cell? ⟨w.heap.size, 2, none⟩ = some (.int .i64 s') := by rw [cell_of_row we _ 2 _ _ (0, 0) hre]; rfl
    have m3 : we.cell? ⟨w.heap.size, 3, none⟩ = some (.slice a' n' c') := by rw [cell_of_row we _ 3 _ _ (0, 0) hre]; rfl
    have r1 := rA.ext hxe; have r2 := rB.ext hxe
    have k0 := r1.c0; have k1 := r1.c1; have g0 := r1.f0; have g1 := r1.f1; have k2 := r2.c0; have k3 := r2.c1; have g2 := r2.f0; have g3 := r2.f1
    have hkk := Keep64.set4 (w := we) (.i64 k0) (.slice k1) (.i64 k2) (.slice k3) (notW_i64 s) (notW_slice a n c) (notW_i64 s') (.slice a' n' c')
    go_wp2_with fail
    go_region
    go_wp2_with fail
    exact bodyPost_ret (v := .tuple #[.agg #[.int .i64 s, .slice a n c], .agg #[.int .i64 s', .slice a' n' c']]) (by simp [results, Tryz.results10, go_sem, k0, k1, k2, k3]) rfl ⟨s, a, n, c, s', a', n', c', rfl, ((H1.out.ext (E0.trans hxe)).keep64 hkk).ext (Below.drew (Ext.refl _)), ((H2.out.ext (E0.trans hxe)).keep64 hkk).ext (Below.drew (Ext.refl _)), Below.drew (((E0.trans hxe).put2 (by omega) _ _).put2 (by omega) _ _)⟩

end Go.Proofs.YtdiojbgbeeojkaaGreatDoor
