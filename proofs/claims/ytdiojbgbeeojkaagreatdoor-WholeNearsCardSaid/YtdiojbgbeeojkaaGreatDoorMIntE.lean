/-
  Add and Sub.
-/
import Derived.Test.YtdiojbgbeeojkaaGreatDoorMIntC

namespace Go.Proofs.YtdiojbgbeeojkaaGreatDoor
open Go.RowKit

theorem short_yes (s1 s2 : Int) (n1 c1 n2 c2 : Nat) (w : World) :
    Calls Tryz.prog 68 #[.agg #[.int .i64 s1, .slice none n1 c1], .agg #[.int .i64 s2, .slice none n2 c2]] w fun e w' => e = .returned (.bool true) ∧ Ext w w' := short_any s1 s2 none none n1 c1 n2 c2 w
theorem short_no (s1 s2 : Int) (a1 a2 : Option Addr) (n1 c1 n2 c2 : Nat) (w : World) (h : ¬ (a1 = none ∧ a2 = none)) :
    Calls Tryz.prog 68 #[.agg #[.int .i64 s1, .slice a1 n1 c1], .agg #[.int .i64 s2, .slice a2 n2 c2]] w fun e w' => e = .returned (.bool false) ∧ Ext w w' := by
  have hb : (a1.isNone && a2.isNone) = false := by
    cases a1 <;> cases a2 <;> simp_all
  have := short_any s1 s2 a1 a2 n1 c1 n2 c2 w
  rw [hb] at this
  exact this

theorem IsInt.none {w : World} {sm : Int} {n c : Nat} {z : Int} (h : IsInt w sm Option.none n c z) : n = 0 ∧ c = 0 ∧ sm = z ∧ -9223372036854775808 ≤ z ∧ z ≤ 9223372036854775807 := by
  rcases h with ⟨_, h⟩ | ⟨b, o, l, h, _⟩
  · exact h
  · cases h

set_option maxHeartbeats 1000000 in
set_option maxRecDepth 100000 in
theorem Add_any (s1 s2 : Int) (a1 a2 : Option Addr) (n1 c1 n2 c2 : Nat) (z1 z2 : Int) (w : World) (h1 : IsInt w s1 a1 n1 c1 z1) (h2 : IsInt w s2 a2 n2 c2 z2) (K : Nat) (hK : K ≤ 4194304) (hf1 : Fit K z1) (hf2 : Fit K z2) :
    Calls Tryz.prog 50 #[.agg #[.int .i64 s1, .slice a1 n1 c1], .agg #[.int .i64 s2, .slice a2 n2 c2]] w fun e w' => ∃ (s' : Int) (a' : Option Addr) (n' c' : Nat), e = .returned (.agg #[.int .i64 s', .slice a' n' c']) ∧ IsInt w' s' a' n' c' (z1 + z2) ∧ Ext w w' := by
  have Hf1 := hid hf1; have Hf2 := hid hf2
  clear hf1 hf2
  by_cases hsh : a1 = none ∧ a2 = none
  · obtain ⟨rfl, rfl⟩ := hsh
    obtain ⟨rfl, rfl, rfl, r1, r2⟩ := h1.none
    obtain ⟨rfl, rfl, rfl, r3, r4⟩ := h2.none
    have h1k := hid h1; have h2k := hid h2
    clear h1 h2
    by_cases hov : -9223372036854775808 ≤ s1 + s2 ∧ s1 + s2 ≤ 9223372036854775807
    · obtain ⟨o1, o2⟩ := hov
      clear Hf1 Hf2 hK h1k h2k
      go_enter Tryz.func50, Tryz.ntmps50
      go_wp2_with fail
      have hbx := boxes2 w (.int .i64 s1) (.slice none 0 0) (.int .i64 s2) (.slice none 0 0)
      generalize ((w.alloc (.cells #[.int .i64 s1, .slice none 0 0] 24)).alloc (.cells #[.int .i64 s2, .slice none 0 0] 24)).alloc (.cells #[.int .i64 0, .slice none 0 0] 24) = W0 at *
      refine (short_yes _ _ _ _ _ _ _).mono ?_
      rintro e w1 ⟨rfl, he1⟩
      obtain ⟨x0, x1, x2, x3⟩ := keep4' he1 hbx
      have hr4 := hbx.res.ext he1
      have k0 := hr4.c0; have k1 := hr4.c1; have g0 := hr4.f0; have g1 := hr4.f1
      have ht : (decide (s1 < s1 + s2) == decide (0 < s2)) = true := by
        rw [beq_iff_eq, decide_eq_decide]; omega
      go_wp2_with fail
      exact bodyPost_ret (v := .agg #[.int .i64 (s1 + s2), .slice none 0 0]) (by simp [results, Tryz.results50, go_sem, k0, k1]) rfl ⟨s1 + s2, none, 0, 0, rfl, IsInt.small _ _ o1 o2, (hbx.ext.trans he1).setRes (by omega) _ _⟩
    · obtain ⟨t, ht0⟩ : ∃ t, wrap64 (s1 + s2) = t := ⟨_, rfl⟩
      have hts : t = s1 + s2 + 18446744073709551616 ∨ t = s1 + s2 - 18446744073709551616 := by
        rw [← ht0]; unfold wrap64; omega
      have htr : -9223372036854775808 ≤ t ∧ t ≤ 9223372036854775807 := by
        rw [← ht0]; unfold wrap64; omega
      have ht : (decide (s1 < t) == decide (0 < s2)) = false := by
        rw [beq_eq_false_iff_ne, ne_eq, decide_eq_decide]; omega
      obtain ⟨u1, u2⟩ := htr
      clear hov hts
      go_enter Tryz.func50, Tryz.ntmps50
      go_wp2_with fail
      have hbx := boxes2 w (.int .i64 s1) (.slice none 0 0) (.int .i64 s2) (.slice none 0 0)
      generalize ((w.alloc (.cells #[.int .i64 s1, .slice none 0 0] 24)).alloc (.cells #[.int .i64 s2, .slice none 0 0] 24)).alloc (.cells #[.int .i64 0, .slice none 0 0] 24) = W0 at *
      refine (short_yes _ _ _ _ _ _ _).mono ?_
      rintro e w1 ⟨rfl, he1⟩
      obtain ⟨x0, x1, x2, x3⟩ := keep4' he1 hbx
      go_wp2_with fail
      have heE := hbx.ext.trans he1
      refine (addLong_any s1 s2 none none 0 0 0 0 s1 s2 w1 (h1k.out.ext heE) (h2k.out.ext heE) K hK Hf1.out Hf2.out).mono ?_
      rintro e w2 ⟨s4, a4, n4, c4, rfl, hI4, hx2⟩
      have hr4 := (hbx.res.ext he1).ext hx2
      have k0 := hr4.c0; have k1 := hr4.c1; have g0 := hr4.f0; have g1 := hr4.f1
      go_wp2_with fail
      exact bodyPost_ret (v := .agg #[.int .i64 s4, .slice a4 n4 c4]) (by simp [results, Tryz.results50, go_sem, k0, k1]) rfl ⟨s4, a4, n4, c4, rfl, hI4.setRes hr4.row _ _, (heE.trans hx2).setRes (by omega) _ _⟩
  · have h1k := hid h1; have h2k := hid h2
    have hsn := fun wx => short_no s1 s2 a1 a2 n1 c1 n2 c2 wx hsh
    have Hsn := hid hsn
    clear h1 h2 hsn hsh
    go_enter Tryz.func50, Tryz.ntmps50
    go_wp2_with fail
    have hbx := boxes2 w (.int .i64 s1) (.slice a1 n1 c1) (.int .i64 s2) (.slice a2 n2 c2)
    generalize ((w.alloc (.cells #[.int .i64 s1, .slice a1 n1 c1] 24)).alloc (.cells #[.int .i64 s2, .slice a2 n2 c2] 24)).alloc (.cells #[.int .i64 0, .slice none 0 0] 24) = W0 at *
    refine (Hsn.out _).mono ?_
    rintro e w1 ⟨rfl, he1⟩
    obtain ⟨x0, x1, x2, x3⟩ := keep4' he1 hbx
    go_wp2_with fail
    have heE := hbx.ext.trans he1
    refine (addLong_any s1 s2 a1 a2 n1 c1 n2 c2 z1 z2 w1 (h1k.out.ext heE) (h2k.out.ext heE) K hK Hf1.out Hf2.out).mono ?_
    rintro e w2 ⟨s4, a4, n4, c4, rfl, hI4, hx2⟩
    have hr4 := (hbx.res.ext he1).ext hx2
    have k0 := hr4.c0; have k1 := hr4.c1; have g0 := hr4.f0; have g1 := hr4.f1
    go_wp2_with fail
    exact bodyPost_ret (v := .agg #[.int .i64 s4, .slice a4 n4 c4]) (by simp [results, Tryz.results50, go_sem, k0, k1]) rfl ⟨s4, a4, n4, c4, rfl, hI4.setRes hr4.row _ _, (heE.trans hx2).setRes (by omega) _ _⟩

/-- What is behind a call that is handed a world later than w. -/
theorem Neg_from {w : World} {sm : Int} {ao : Option Addr} {n c : Nat} {z : Int} (h : IsInt w sm ao n c z) : ∀ wx : World, Ext w wx → Calls Tryz.prog 52 #[.agg #[.int .i64 sm, .slice ao n c]] wx fun e w' =>
    ∃ (s' : Int) (a' : Option Addr) (n' c' : Nat), e = .returned (.agg #[.int .i64 s', .slice a' n' c']) ∧ IsInt w' s' a' n' c' (-z) ∧ Ext w w' ∧ Ext wx w' :=
  fun wx hx => (Neg_any sm ao n c z wx (h.ext hx)).mono fun _ _ ⟨s', a', n', c', h1, h2, h3⟩ => ⟨s', a', n', c', h1, h2, hx.trans h3, h3⟩

theorem Add_from {w : World} {s1 : Int} {a1 : Option Addr} {n1 c1 : Nat} {z1 : Int} (h1 : IsInt w s1 a1 n1 c1 z1) (K : Nat) (hK : K ≤ 4194304) (hf1 : Fit K z1) : ∀ (wx : World) (s2 : Int) (a2 : Option Addr) (n2 c2 : Nat) (z2 : Int), Ext w wx → IsInt wx s2 a2 n2 c2 z2 → Fit K z2 →
    Calls Tryz.prog 50 #[.agg #[.int .i64 s1, .slice a1 n1 c1], .agg #[.int .i64 s2, .slice a2 n2 c2]] wx fun e w' =>
    ∃ (s' : Int) (a' : Option Addr) (n' c' : Nat), e = .returned (.agg #[.int .i64 s', .slice a' n' c']) ∧ IsInt w' s' a' n' c' (z1 + z2) ∧ Ext w w' ∧ Ext wx w' :=
  fun wx s2 a2 n2 c2 z2 hx h2 hf2 => (Add_any s1 s2 a1 a2 n1 c1 n2 c2 z1 z2 wx (h1.ext hx) h2 K hK hf1 hf2).mono fun _ _ ⟨s', a', n', c', e1, e2, e3⟩ => ⟨s', a', n', c', e1, e2, hx.trans e3, e3⟩

theorem Fit.neg {k : Nat} {z : Int} (h : Fit k z) : Fit k (-z) := by unfold Fit at *; rw [Int.natAbs_neg]; exact h

set_option maxHeartbeats 1000000 in
set_option maxRecDepth 100000 in
theorem Sub_any (s1 s2 : Int) (a1 a2 : Option Addr) (n1 c1 n2 c2 : Nat) (z1 z2 : Int) (w : World) (h1 : IsInt w s1 a1 n1 c1 z1) (h2 : IsInt w s2 a2 n2 c2 z2) (K : Nat) (hK : K ≤ 4194304) (hf1 : Fit K z1) (hf2 : Fit K z2) :
    Calls Tryz.prog 86 #[.agg #[.int .i64 s1, .slice a1 n1 c1], .agg #[.int .i64 s2, .slice a2 n2 c2]] w fun e w' => ∃ (s' : Int) (a' : Option Addr) (n' c' : Nat), e = .returned (.agg #[.int .i64 s', .slice a' n' c']) ∧ IsInt w' s' a' n' c' (z1 - z2) ∧ Ext w w' := by
  have Hf1 := hid hf1; have Hf2 := hid hf2; have H1 := hid h1; have H2 := hid h2
  clear hf1 hf2 h1 h2
  go_enter Tryz.func86, Tryz.ntmps86
  go_wp2_with fail
  have hbx := boxes2 w (.int .i64 s1) (.slice a1 n1 c1) (.int .i64 s2) (.slice a2 n2 c2)
  generalize ((w.alloc (.cells #[.int .i64 s1, .slice a1 n1 c1] 24)).alloc (.cells #[.int .i64 s2, .slice a2 n2 c2] 24)).alloc (.cells #[.int .i64 0, .slice none 0 0] 24) = W0 at *
  have Hn := hid (Neg_from (H2.out.ext hbx.ext)); have Ha := hid (Add_from (H1.out.ext hbx.ext) K hK Hf1.out)
  have hE0d : Ext W0 W0.drew := Below.drew (Ext.refl _)
  have hB : w.heap.size + 1 < W0.heap.size := by have := hbx.size; omega
  have c0 := hbx.c0; have c1' := hbx.c1; have d0 := hbx.d0; have d1 := hbx.d1
  go_region_held3 (fun w' => w'.cell? ⟨w.heap.size, 0, none⟩ = some (.int .i64 s1) ∧ w'.cell? ⟨w.heap.size, 1, none⟩ = some (.slice a1 n1 c1) ∧ w'.cell? ⟨w.heap.size + 1, 0, none⟩ = some (.int .i64 s2) ∧ w'.cell? ⟨w.heap.size + 1, 1, none⟩ = some (.slice a2 n2 c2)) (first | exact keep4 (by assumption) hB c0 c1' d0 d1 | exact keep4s (by assumption) hbx _ _)
    (first | (go_at_call 52; refine (Hn.out _ (by assumption)).mono ?_; rintro e wa ⟨s3, a3, n3, c3, rfl, hI3, hea, hxa⟩) | (go_at_call 50; refine (Ha.out _ s3 a3 n3 c3 _ hea hI3 Hf2.out.neg).mono ?_; rintro e wb ⟨s4, a4, n4, c4, rfl, hI4, heb, hxb⟩; have hr4 := hbx.res.ext heb; have k0 := hr4.c0; have k1 := hr4.c1; have g0 := hr4.f0; have g1 := hr4.f1))
  go_wp2_with fail
  exact bodyPost_ret (v := .agg #[.int .i64 s4, .slice a4 n4 c4]) (by simp [results, Tryz.results86, go_sem, k0, k1]) rfl ⟨s4, a4, n4, c4, rfl, (hI4.cast (by omega)).setRes hr4.row _ _, (hbx.ext.trans heb).setRes (by omega) _ _⟩

end Go.Proofs.YtdiojbgbeeojkaaGreatDoor

/-
  fromPair and Mul.
-/
namespace Go.Proofs.YtdiojbgbeeojkaaGreatDoor
open Go.RowKit

theorem Seg.new2 (w : World) (x y : Nat) (e : TypeId) : Seg (w.alloc (.cells #[.int .u64 (x : Nat), .int .u64 (y : Nat)] e)) (some ⟨w.heap.size, 0, none⟩) [x, y] := by
  refine Or.inr ⟨w.heap.size, 0, rfl, by simp, fun t ht => ?_⟩
  have ht2 : t < 2 := by simpa using ht
  have : t = 0 ∨ t = 1 := by omega
  rcases this with rfl | rfl <;> simp

set_option maxHeartbeats 600000 in
set_option maxRecDepth 100000 in
theorem fromPair_any (neg : Bool) (hi lo : Nat) (h1 : hi < B64) (h2 : lo < B64) (w : World) :
    Calls Tryz.prog 79 #[.bool neg, .int .u64 hi, .int .u64 lo] w fun e w' => ∃ (sm : Int) (a' : Option Addr) (n' c' : Nat), e = .returned (.agg #[.int .i64 sm, .slice a' n' c']) ∧ IsInt w' sm a' n' c' (sgn neg (lo + B64 * hi)) ∧ Ext w w' := by
  have hR : Res (w.alloc (.cells #[.int .i64 0, .slice none 0 0] 24)) w.heap.size := ⟨by simp, heap_alloc_new w _⟩
  have hE : Ext w (w.alloc (.cells #[.int .i64 0, .slice none 0 0] 24)) := Ext.alloc _ _
  by_cases hs : fits neg lo = true ∧ hi = 0
  · obtain ⟨hf, rfl⟩ := hs
    have hrg := (fits_iff neg lo).1 hf
    go_enter Tryz.func79, Tryz.ntmps79
    go_wp2_with fail
    generalize w.alloc (.cells #[.int .i64 0, .slice none 0 0] 24) = W0 at *
    refine (fromWord_any neg lo h2 _).mono ?_
    rintro e w1 ⟨sm, rfl, hsm, he1⟩
    rw [hf]
    have Hsm := hid (hsm hf)
    have hr1 := hR.ext he1
    have k0 := hr1.c0; have k1 := hr1.c1; have g0 := hr1.f0; have g1 := hr1.f1; have hz1 := hr1.lt
    have Hrg := hid hrg
    clear hsm hf hrg
    go_wp2_with fail
    exact bodyPost_ret (v := .agg #[.int .i64 sm, .slice none 0 0]) (by simp [results, Tryz.results79, go_sem, k0, k1, hz1]) rfl ⟨sm, none, 0, 0, rfl, by rw [Hsm.out, Nat.mul_zero, Nat.add_zero]; exact IsInt.small _ _ Hrg.out.1 Hrg.out.2, ((hE.trans he1).setRes (Nat.le_refl _) _ _).then _⟩
  · have hgo : (fits neg lo = false) ∨ (fits neg lo = true ∧ ((hi : Int) == 0) = false) := by
      cases hf : fits neg lo
      · exact Or.inl rfl
      · right; refine ⟨rfl, ?_⟩; rw [beq_eq_false_iff_ne]; intro h; exact hs ⟨hf, by omega⟩
    clear hs
    have hd : Dig [lo, hi] := Dig.cons h2 (Dig.cons h1 Dig.nil)
    rcases hgo with hf | ⟨hf, hh⟩
    all_goals
      go_enter Tryz.func79, Tryz.ntmps79
      go_wp2_with fail
      generalize w.alloc (.cells #[.int .i64 0, .slice none 0 0] 24) = W0 at *
      refine (fromWord_any neg lo h2 _).mono ?_
      rintro e w1 ⟨sm, rfl, hsm, he1⟩
      rw [hf]
      clear hsm
      go_wp2_with fail
      have hea : Ext w1 (w1.alloc (.cells #[.int .i64 sm, .slice none 0 0] 24)) := Ext.alloc _ _
      have hsz : (w1.alloc (.cells #[.int .i64 sm, .slice none 0 0] 24)).heap.size = w1.heap.size + 1 := by simp
      have hsn := Seg.new2 (w1.alloc (.cells #[.int .i64 sm, .slice none 0 0] 24)) lo hi 92
      have heb := hea.then (.cells #[.int .u64 (lo : Nat), .int .u64 (hi : Nat)] 92)
      rw [hsz] at hsn
      refine (fromWords_any neg _ [lo, hi] 2 2 _ rfl hsn hd (Nat.le_refl _) (by unfold maxLen; omega)).mono ?_
      rintro e w2 ⟨s4, a4, n4, c4, rfl, hI4, he2⟩
      have he3 := (he1.trans heb).trans he2
      have hr4 := hR.ext he3
      have k0 := hr4.c0; have k1 := hr4.c1; have g0 := hr4.f0; have g1 := hr4.f1
      go_wp2_with fail
      exact bodyPost_ret (v := .agg #[.int .i64 s4, .slice a4 n4 c4]) (by simp [results, Tryz.results79, go_sem, k0, k1]) rfl ⟨s4, a4, n4, c4, rfl, (hI4.cast (by simp [val])).setRes hr4.row _ _, (hE.trans he3).setRes (Nat.le_refl _) _ _⟩

theorem sgn_mul {z1 z2 : Int} {b1 b2 : Bool} (h1 : z1 = sgn b1 z1.natAbs) (h2 : z2 = sgn b2 z2.natAbs) : sgn (!(b1 == b2)) (z1.natAbs * z2.natAbs) = z1 * z2 := by
  have e : z1 * z2 = sgn b1 z1.natAbs * sgn b2 z2.natAbs := by rw [← h1, ← h2]
  rw [e]
  cases b1 <;> cases b2 <;> simp [sgn, Int.neg_mul, Int.mul_neg]

/-- The sign's Bool, as the program asks for it. -/
theorem IsInt.bool {w : World} {sm : Int} {ao : Option Addr} {n c : Nat} {z : Int} (h : IsInt w sm ao n c z) : z = sgn (decide (sm < 0)) z.natAbs := by
  have h5 := h.sign.1
  by_cases h6 : sm < 0
  · have := h5.1 h6; simp [sgn, h6]; omega
  · have : ¬ z < 0 := fun k => h6 (h5.2 k)
    simp [sgn, h6]; omega

set_option maxHeartbeats 1000000 in
set_option maxRecDepth 100000 in
theorem Mul_any (s1 s2 : Int) (a1 a2 : Option Addr) (n1 c1 n2 c2 : Nat) (z1 z2 : Int) (w : World) (h1 : IsInt w s1 a1 n1 c1 z1) (h2 : IsInt w s2 a2 n2 c2 z2) (K : Nat) (hK : K ≤ 4194304) (hf1 : Fit K z1) (hf2 : Fit K z2) :
    Calls Tryz.prog 46 #[.agg #[.int .i64 s1, .slice a1 n1 c1], .agg #[.int .i64 s2, .slice a2 n2 c2]] w fun e w' => ∃ (s' : Int) (a' : Option Addr) (n' c' : Nat), e = .returned (.agg #[.int .i64 s', .slice a' n' c']) ∧ IsInt w' s' a' n' c' (z1 * z2) ∧ Ext w w' := by
  have Hf1 := hid hf1; have Hf2 := hid hf2; have H1 := hid h1; have H2 := hid h2
  have hz1 := h1.bool; have hz2 := h2.bool
  clear hf1 hf2 h1 h2
  go_enter Tryz.func46, Tryz.ntmps46
  go_wp2_with fail
  have hbx := boxes2 w (.int .i64 s1) (.slice a1 n1 c1) (.int .i64 s2) (.slice a2 n2 c2)
  generalize ((w.alloc (.cells #[.int .i64 s1, .slice a1 n1 c1] 24)).alloc (.cells #[.int .i64 s2, .slice a2 n2 c2] 24)).alloc (.cells #[.int .i64 0, .slice none 0 0] 24) = W0 at *
  have Hw1 := hid (words_from (H1.out.ext hbx.ext)); have Hw2 := hid (words_from (H2.out.ext hbx.ext))
  obtain ⟨b1, hb1⟩ : ∃ b, decide (s1 < 0) = b := ⟨_, rfl⟩
  obtain ⟨b2, hb2⟩ : ∃ b, decide (s2 < 0) = b := ⟨_, rfl⟩
  have hn1 := negative_from (w := W0) s1 (.slice a1 n1 c1); have hn2 := negative_from (w := W0) s2 (.slice a2 n2 c2)
  rw [hb1] at hn1 hz1; rw [hb2] at hn2 hz2
  have Hn1 := hid hn1; have Hn2 := hid hn2; have Hz1 := hid hz1; have Hz2 := hid hz2
  clear hn1 hn2 hb1 hb2 hz1 hz2
  have hE0d : Ext W0 W0.drew := Below.drew (Ext.refl _)
  have hB : w.heap.size + 1 < W0.heap.size := by have := hbx.size; omega
  have c0 := hbx.c0; have c1' := hbx.c1; have d0 := hbx.d0; have d1 := hbx.d1
  go_region_held3 (fun w' => w'.cell? ⟨w.heap.size, 0, none⟩ = some (.int .i64 s1) ∧ w'.cell? ⟨w.heap.size, 1, none⟩ = some (.slice a1 n1 c1) ∧ w'.cell? ⟨w.heap.size + 1, 0, none⟩ = some (.int .i64 s2) ∧ w'.cell? ⟨w.heap.size + 1, 1, none⟩ = some (.slice a2 n2 c2)) (first | exact keep4 (by assumption) hB c0 c1' d0 d1)
    (first | (go_at_call_of 43 s1; refine (Hn1.out _ (by assumption)).mono ?_; rintro e wc ⟨rfl, hec, hxc⟩) | (go_at_call_of 43 s2; refine (Hn2.out _ (by assumption)).mono ?_; rintro e wd ⟨rfl, hed, hxd⟩))
  obtain ⟨x0, x1, x2, x3⟩ := keep4' hed hbx
  clear hec hxc hxd c0 c1' d0 d1
  obtain ⟨nb, hnb⟩ : ∃ nb, (!(b1 == b2)) = nb := ⟨_, rfl⟩
  have Hnb := hid hnb
  rw [hnb]
  clear hnb
  by_cases hsh : a1 = none ∧ a2 = none
  · obtain ⟨rfl, rfl⟩ := hsh
    obtain ⟨rfl, rfl, rfl, r1, r2⟩ := H1.out.none
    obtain ⟨rfl, rfl, rfl, r3, r4⟩ := H2.out.none
    go_wp2_with fail
    refine (short_yes _ _ _ _ _ _ _).mono ?_
    rintro e we ⟨rfl, hxe⟩
    have hee := hed.trans hxe
    obtain ⟨y0, y1, y2, y3⟩ := keep4' hee hbx
    have heed : Ext W0 we.drew := Below.drew hee
    have Hwo1 := hid (wordOf_any s1 r1 r2); have Hwo2 := hid (wordOf_any s2 r3 r4)
    have hx1B : s1.natAbs < B64 := by rw [B64_eq]; omega
    have hx2B : s2.natAbs < B64 := by rw [B64_eq]; omega
    obtain ⟨v1, hv1⟩ : ∃ v, s1.natAbs = v := ⟨_, rfl⟩
    obtain ⟨v2, hv2⟩ : ∃ v, s2.natAbs = v := ⟨_, rfl⟩
    rw [hv1] at Hwo1 hx1B; rw [hv2] at Hwo2 hx2B
    have Hv1 := hid hv1; have Hv2 := hid hv2
    clear hv1 hv2 x0 x1 x2 x3
    go_wp2_with fail
    go_region_held3 (fun w' => w'.cell? ⟨w.heap.size, 0, none⟩ = some (.int .i64 s1) ∧ w'.cell? ⟨w.heap.size, 1, none⟩ = some (.slice none 0 0) ∧ w'.cell? ⟨w.heap.size + 1, 0, none⟩ = some (.int .i64 s2) ∧ w'.cell? ⟨w.heap.size + 1, 1, none⟩ = some (.slice none 0 0)) (first | exact keep4 (by assumption) hB hbx.c0 hbx.c1 hbx.d0 hbx.d1)
      (first | (go_at_call_of 78 s1; refine (Hwo1.out _).mono ?_; rintro e wc ⟨rfl, rfl⟩) | (go_at_call_of 78 s2; refine (Hwo2.out _).mono ?_; rintro e wd ⟨rfl, rfl⟩) | (go_at_call 77; refine (mul64_hl v1 v2 hx1B hx2B _).mono ?_; rintro e wf ⟨hi, lo, rfl, rfl, hhi, hlo, Hp⟩))
    go_wp2_with fail
    refine (fromPair_any nb hi lo (by rw [B64_eq]; omega) (by rw [B64_eq]; omega) _).mono ?_
    rintro e wg ⟨s4, a4, n4, c4, rfl, hI4, hxg⟩
    have heg := heed.trans hxg
    have hr4 := hbx.res.ext heg
    have k0 := hr4.c0; have k1 := hr4.c1; have g0 := hr4.f0; have g1 := hr4.f1
    go_wp2_with fail
    have hv4 : sgn nb (lo + B64 * hi) = s1 * s2 := by
      rw [Hp.out, ← Hnb.out, ← Hv1.out, ← Hv2.out]; exact sgn_mul Hz1.out Hz2.out
    exact bodyPost_ret (v := .agg #[.int .i64 s4, .slice a4 n4 c4]) (by simp [results, Tryz.results46, go_sem, k0, k1]) rfl ⟨s4, a4, n4, c4, rfl, (hI4.cast hv4).setRes hr4.row _ _, (hbx.ext.trans heg).setRes (by omega) _ _⟩
  · have Hsn := hid (fun wx => short_no s1 s2 a1 a2 n1 c1 n2 c2 wx hsh)
    clear hsh
    go_wp2_with fail
    refine (Hsn.out _).mono ?_
    rintro e we ⟨rfl, hxe⟩
    have hee := hed.trans hxe
    obtain ⟨y0, y1, y2, y3⟩ := keep4' hee hbx
    have heed : Ext W0 we.drew := Below.drew hee
    have Hmw := hid (mulOK_all 16777216 (Nat.le_refl _)); have Hfw := hid (fromWords_from (w := W0) nb)
    clear x0 x1 x2 x3
    go_wp2_with fail
    go_region_held3 (fun w' => w'.cell? ⟨w.heap.size, 0, none⟩ = some (.int .i64 s1) ∧ w'.cell? ⟨w.heap.size, 1, none⟩ = some (.slice a1 n1 c1) ∧ w'.cell? ⟨w.heap.size + 1, 0, none⟩ = some (.int .i64 s2) ∧ w'.cell? ⟨w.heap.size + 1, 1, none⟩ = some (.slice a2 n2 c2)) (first | exact keep4 (by assumption) hB hbx.c0 hbx.c1 hbx.d0 hbx.d1 | exact keep4s (by assumption) hbx _ _)
      (first | (go_at_call_of 71 s1; refine (Hw1.out _ (by assumption)).mono ?_; rintro e wa ⟨p1, l1, m1, e1, rfl, hl1, hm1, he1, hsg1, hd1, hr1, Hv1, hea, hxa⟩; have Hl1 := hid hl1; clear hl1) | (go_at_call_of 71 s2; refine (Hw2.out _ (by assumption)).mono ?_; rintro e wb ⟨p2, l2, m2, e2, rfl, hl2, hm2, he2, hsg2, hd2, hr2, Hv2, heb, hxb⟩; have Hl2 := hid hl2; clear hl2) | (go_at_call 76; refine (Hmw.out p1 p2 l1 l2 m1 m2 e1 e2 wb Hl1.out Hl2.out (hsg1.ext hxb) hsg2 hd1 hd2 hm1 hm2 he1 he2 (by have := Hf1.out.len hr1 Hv1.out; have := Hf2.out.len hr2 Hv2.out; have := Hl1.out; have := Hl2.out; omega)).mono ?_; rintro e wf ⟨_, rfl, ⟨p3, l3, e3, rfl, hm3, he3, hsg3, hd3, hr3, hv3⟩, hxf, _⟩; have Hv3 := hid hv3; clear hv3; have hef := heb.trans hxf) | (go_at_call 62; refine (Hfw.out _ p3 l3 l3.length e3 hef rfl hsg3 hd3 hm3 he3).mono ?_; rintro e wg ⟨s4, a4, n4, c4, rfl, hI4, heg, hxg⟩; have hr4 := hbx.res.ext heg; have k0 := hr4.c0; have k1 := hr4.c1; have g0 := hr4.f0; have g1 := hr4.f1))
    go_wp2_with fail
    have hv4 : sgn nb (val l3) = z1 * z2 := by
      rw [Hv3.out, ← Hnb.out, Hv1.out, Hv2.out]; exact sgn_mul Hz1.out Hz2.out
    exact bodyPost_ret (v := .agg #[.int .i64 s4, .slice a4 n4 c4]) (by simp [results, Tryz.results46, go_sem, k0, k1]) rfl ⟨s4, a4, n4, c4, rfl, (hI4.cast hv4).setRes hr4.row _ _, (hbx.ext.trans heg).setRes (by omega) _ _⟩

end Go.Proofs.YtdiojbgbeeojkaaGreatDoor

/-
  Cmp.
-/
namespace Go.Proofs.YtdiojbgbeeojkaaGreatDoor
open Go.RowKit

/-- The world behind the boxing of two numbers. -/
structure Boxed2 (w W : World) (x1 y1 x2 y2 : Value) : Prop where
  ext : Ext w W
  size : W.heap.size = w.heap.size + 2
  c0 : W.cell? ⟨w.heap.size, 0, none⟩ = some x1
  c1 : W.cell? ⟨w.heap.size, 1, none⟩ = some y1
  d0 : W.cell? ⟨w.heap.size + 1, 0, none⟩ = some x2
  d1 : W.cell? ⟨w.heap.size + 1, 1, none⟩ = some y2

theorem boxed2 (w : World) (x1 y1 x2 y2 : Value) : Boxed2 w ((w.alloc (.cells #[x1, y1] 24)).alloc (.cells #[x2, y2] 24)) x1 y1 x2 y2 :=
  ⟨(Ext.alloc _ _).then _, by simp, by simp, by simp, by simp, by simp⟩

theorem keepb {w W w' : World} {x y x2 y2 : Value} (h : Ext W w') (hb : Boxed2 w W x y x2 y2) : w'.cell? ⟨w.heap.size, 0, none⟩ = some x ∧ w'.cell? ⟨w.heap.size, 1, none⟩ = some y ∧ w'.cell? ⟨w.heap.size + 1, 0, none⟩ = some x2 ∧ w'.cell? ⟨w.heap.size + 1, 1, none⟩ = some y2 :=
  keep4 h (by have := hb.size; omega) hb.c0 hb.c1 hb.d0 hb.d1

theorem Sign_from {w : World} (sm : Int) (lv : Value) : ∀ wx : World, Ext w wx → Calls Tryz.prog 41 #[.agg #[.int .i64 sm, lv]] wx fun e w' => e = .returned (.int .i64 (cmp3 sm 0)) ∧ Ext w w' ∧ Ext wx w' :=
  fun wx hx => (Sign_any sm lv wx).mono fun _ _ h => ⟨h.1, hx.trans h.2, h.2⟩

theorem cmp3_sgn (b1 b2 : Bool) (x y : Nat) (hb : b1 ≠ b2) (h1 : b1 = true → 0 < x) (h2 : b2 = true → 0 < y) : cmp3 (cmp3 (sgn b1 x) 0) (cmp3 (sgn b2 y) 0) = cmp3 (sgn b1 x) (sgn b2 y) := by
  cases b1 <;> cases b2
  · exact absurd rfl hb
  · have := h2 rfl
    have e2 : cmp3 (sgn true y) 0 = -1 := cmp3_lt (by simp [sgn]; omega)
    rw [e2, cmp3_gt (x := sgn false x) (y := sgn true y) (by simp [sgn]; omega)]
    unfold cmp3; simp [sgn]; split <;> omega
  · have := h1 rfl
    have e1 : cmp3 (sgn true x) 0 = -1 := cmp3_lt (by simp [sgn]; omega)
    rw [e1, cmp3_lt (x := sgn true x) (y := sgn false y) (by simp [sgn]; omega)]
    unfold cmp3; simp [sgn]; split <;> omega
  · exact absurd rfl hb

theorem cmp3_same (b : Bool) (x y : Nat) : cmp3 (sgn b x) (sgn b y) = (if b then cmp3 (y : Int) (x : Int) else cmp3 (x : Int) (y : Int)) := by
  cases b
  · simp [sgn]
  · simp only [sgn, if_true]
    unfold cmp3
    split <;> split <;> (try split) <;> (try split) <;> omega

set_option maxHeartbeats 1000000 in
set_option maxRecDepth 100000 in
theorem Cmp_any (s1 s2 : Int) (a1 a2 : Option Addr) (n1 c1 n2 c2 : Nat) (z1 z2 : Int) (w : World) (h1 : IsInt w s1 a1 n1 c1 z1) (h2 : IsInt w s2 a2 n2 c2 z2) (K : Nat) (hK : K ≤ 4194304) (hf1 : Fit K z1) (hf2 : Fit K z2) :
    Calls Tryz.prog 34 #[.agg #[.int .i64 s1, .slice a1 n1 c1], .agg #[.int .i64 s2, .slice a2 n2 c2]] w fun e w' => e = .returned (.int .i64 (cmp3 z1 z2)) ∧ Ext w w' := by
  have Hf1 := hid hf1; have Hf2 := hid hf2; have H1 := hid h1; have H2 := hid h2
  have hz1 := h1.bool; have hz2 := h2.bool
  have hsg1 := hid h1.sign; have hsg2 := hid h2.sign
  have hc1 := hid h1.cmp3; have hc2 := hid h2.cmp3
  clear hf1 hf2 h1 h2
  by_cases hsh : a1 = none ∧ a2 = none
  · obtain ⟨rfl, rfl⟩ := hsh
    obtain ⟨rfl, rfl, rfl, r1, r2⟩ := H1.out.none
    obtain ⟨rfl, rfl, rfl, r3, r4⟩ := H2.out.none
    clear hz1 hz2
    go_enter Tryz.func34, Tryz.ntmps34
    go_wp2_with fail
    have hbx := boxed2 w (.int .i64 s1) (.slice none 0 0) (.int .i64 s2) (.slice none 0 0)
    generalize (w.alloc (.cells #[.int .i64 s1, .slice none 0 0] 24)).alloc (.cells #[.int .i64 s2, .slice none 0 0] 24) = W0 at *
    refine (short_yes _ _ _ _ _ _ _).mono ?_
    rintro e we ⟨rfl, hxe⟩
    obtain ⟨y0, y1, y2, y3⟩ := keepb hxe hbx
    go_wp2_with fail
    refine (compareInt_any _ _ _).mono ?_
    rintro e wf ⟨rfl, rfl⟩
    go_wp2_with fail
    go_ret
    exact ⟨rfl, hbx.ext.trans hxe⟩
  · have Hsn := hid (fun wx => short_no s1 s2 a1 a2 n1 c1 n2 c2 wx hsh)
    clear hsh
    have Hz10 := hid hz1; have Hz20 := hid hz2
    clear hz1 hz2
    go_enter Tryz.func34, Tryz.ntmps34
    go_wp2_with fail
    have hbx := boxed2 w (.int .i64 s1) (.slice a1 n1 c1) (.int .i64 s2) (.slice a2 n2 c2)
    generalize (w.alloc (.cells #[.int .i64 s1, .slice a1 n1 c1] 24)).alloc (.cells #[.int .i64 s2, .slice a2 n2 c2] 24) = W0 at *
    have Hw1 := hid (words_from (H1.out.ext hbx.ext)); have Hw2 := hid (words_from (H2.out.ext hbx.ext))
    obtain ⟨b1, hb1⟩ : ∃ b, decide (s1 < 0) = b := ⟨_, rfl⟩
    obtain ⟨b2, hb2⟩ : ∃ b, decide (s2 < 0) = b := ⟨_, rfl⟩
    have hn1 := negative_from (w := W0) s1 (.slice a1 n1 c1); have hn2 := negative_from (w := W0) s2 (.slice a2 n2 c2)
    have hz1 := Hz10.out; have hz2 := Hz20.out
    have hp1 : b1 = true → 0 < z1.natAbs := by
      intro h; have := hsg1.out.1.1 (by rw [← hb1] at h; simpa using h); omega
    have hp2 : b2 = true → 0 < z2.natAbs := by
      intro h; have := hsg2.out.1.1 (by rw [← hb2] at h; simpa using h); omega
    rw [hb1] at hn1 hz1; rw [hb2] at hn2 hz2
    have Hn1 := hid hn1; have Hn2 := hid hn2; have Hz1 := hid hz1; have Hz2 := hid hz2
    have HS1 := hid (Sign_from (w := W0) s1 (.slice a1 n1 c1)); have HS2 := hid (Sign_from (w := W0) s2 (.slice a2 n2 c2))
    have Hp1 := hid hp1; have Hp2 := hid hp2
    clear hn1 hn2 hb1 hb2 hz1 hz2 hp1 hp2
    have hB : w.heap.size + 1 < W0.heap.size := by have := hbx.size; omega
    refine (Hsn.out _).mono ?_
    rintro e we ⟨rfl, hxe⟩
    obtain ⟨y0, y1, y2, y3⟩ := keepb hxe hbx
    have heed : Ext W0 we.drew := Below.drew hxe
    go_wp2_with fail
    go_region_held3 (fun w' => w'.cell? ⟨w.heap.size, 0, none⟩ = some (.int .i64 s1) ∧ w'.cell? ⟨w.heap.size, 1, none⟩ = some (.slice a1 n1 c1) ∧ w'.cell? ⟨w.heap.size + 1, 0, none⟩ = some (.int .i64 s2) ∧ w'.cell? ⟨w.heap.size + 1, 1, none⟩ = some (.slice a2 n2 c2)) (first | exact keepb (by assumption) hbx)
      (first | (go_at_call_of 43 s1; refine (Hn1.out _ (by assumption)).mono ?_; rintro e wc ⟨rfl, hec, hxc⟩) | (go_at_call_of 43 s2; refine (Hn2.out _ (by assumption)).mono ?_; rintro e wd ⟨rfl, hed, hxd⟩))
    obtain ⟨x0, x1, x2, x3⟩ := keepb hed hbx
    have hedd : Ext W0 wd.drew := Below.drew hed
    clear hec hxc hxd y0 y1 y2 y3 hxe heed
    by_cases hbb : b1 = b2
    · subst hbb
      have hbt : (!(b1 == b1)) = false := by simp
      rw [hbt]
      clear hbt
      go_wp2_with fail
      refine (Hn1.out _ hed).mono ?_
      rintro e wf ⟨rfl, hef, hxf⟩
      obtain ⟨t0, t1, t2, t3⟩ := keepb hef hbx
      have hefd : Ext W0 wf.drew := Below.drew hef
      clear x0 x1 x2 x3
      cases b1
      · go_wp2_with fail
        go_region_held3 (fun w' => w'.cell? ⟨w.heap.size, 0, none⟩ = some (.int .i64 s1) ∧ w'.cell? ⟨w.heap.size, 1, none⟩ = some (.slice a1 n1 c1) ∧ w'.cell? ⟨w.heap.size + 1, 0, none⟩ = some (.int .i64 s2) ∧ w'.cell? ⟨w.heap.size + 1, 1, none⟩ = some (.slice a2 n2 c2)) (first | exact keepb (by assumption) hbx)
          (first | (go_at_call_of 71 s1; refine (Hw1.out _ (by assumption)).mono ?_; rintro e wa ⟨p1, l1, m1, e1, rfl, hl1, hm1, he1, hsg1', hd1, hr1, Hv1, hea, hxa⟩; have Hl1 := hid hl1; clear hl1) | (go_at_call_of 71 s2; refine (Hw2.out _ (by assumption)).mono ?_; rintro e wb ⟨p2, l2, m2, e2, rfl, hl2, hm2, he2, hsg2', hd2, hr2, Hv2, heb, hxb⟩; have Hl2 := hid hl2; clear hl2) | (go_at_call 70; refine (compareWords_any p1 p2 l1 l2 m1 m2 e1 e2 wb Hl1.out Hl2.out (hsg1'.ext hxb) hsg2' hd1 hd2 hr1 hr2 hm1 hm2 (by have := Hf1.out.len hr1 Hv1.out; have := Hl1.out; omega) (by have := Hf2.out.len hr2 Hv2.out; have := Hl2.out; omega)).mono ?_; rintro e wg ⟨rfl, hxg⟩; have heg := heb.trans hxg))
        go_wp2_with fail
        go_ret
        refine ⟨?_, hbx.ext.trans heg⟩
        have e5 : cmp3 z1 z2 = cmp3 (val l1) (val l2) := by rw [Hz1.out, Hz2.out, cmp3_same, Hv1.out, Hv2.out]; simp
        rw [e5]; rfl
      · go_wp2_with fail
        go_region_held3 (fun w' => w'.cell? ⟨w.heap.size, 0, none⟩ = some (.int .i64 s1) ∧ w'.cell? ⟨w.heap.size, 1, none⟩ = some (.slice a1 n1 c1) ∧ w'.cell? ⟨w.heap.size + 1, 0, none⟩ = some (.int .i64 s2) ∧ w'.cell? ⟨w.heap.size + 1, 1, none⟩ = some (.slice a2 n2 c2)) (first | exact keepb (by assumption) hbx)
          (first | (go_at_call_of 71 s2; refine (Hw2.out _ (by assumption)).mono ?_; rintro e wb ⟨p2, l2, m2, e2, rfl, hl2, hm2, he2, hsg2', hd2, hr2, Hv2, heb, hxb⟩; have Hl2 := hid hl2; clear hl2) | (go_at_call_of 71 s1; refine (Hw1.out _ (by assumption)).mono ?_; rintro e wa ⟨p1, l1, m1, e1, rfl, hl1, hm1, he1, hsg1', hd1, hr1, Hv1, hea, hxa⟩; have Hl1 := hid hl1; clear hl1) | (go_at_call 70; refine (compareWords_any p2 p1 l2 l1 m2 m1 e2 e1 wa Hl2.out Hl1.out (hsg2'.ext hxa) hsg1' hd2 hd1 hr2 hr1 hm2 hm1 (by have := Hf2.out.len hr2 Hv2.out; have := Hl2.out; omega) (by have := Hf1.out.len hr1 Hv1.out; have := Hl1.out; omega)).mono ?_; rintro e wg ⟨rfl, hxg⟩; have heg := hea.trans hxg))
        go_wp2_with fail
        go_ret
        refine ⟨?_, hbx.ext.trans heg⟩
        have e5 : cmp3 z1 z2 = cmp3 (val l2) (val l1) := by rw [Hz1.out, Hz2.out, cmp3_same, Hv1.out, Hv2.out]; simp
        rw [e5]; rfl
    · have hbt : (!(b1 == b2)) = true := by cases b1 <;> cases b2 <;> simp_all
      rw [hbt]
      clear hbt
      have Hbb := hid hbb
      clear hbb
      go_wp2_with fail
      go_region_held3 (fun w' => w'.cell? ⟨w.heap.size, 0, none⟩ = some (.int .i64 s1) ∧ w'.cell? ⟨w.heap.size, 1, none⟩ = some (.slice a1 n1 c1) ∧ w'.cell? ⟨w.heap.size + 1, 0, none⟩ = some (.int .i64 s2) ∧ w'.cell? ⟨w.heap.size + 1, 1, none⟩ = some (.slice a2 n2 c2)) (first | exact keepb (by assumption) hbx)
        (first | (go_at_call_of 41 s1; refine (HS1.out _ (by assumption)).mono ?_; rintro e wa ⟨rfl, hea, hxa⟩) | (go_at_call_of 41 s2; refine (HS2.out _ (by assumption)).mono ?_; rintro e wb ⟨rfl, heb, hxb⟩) | (go_at_call 69; refine (compareInt_any _ _ _).mono ?_; rintro e wg ⟨rfl, rfl⟩))
      go_wp2_with fail
      go_ret
      refine ⟨?_, hbx.ext.trans heb⟩
      have e5 : cmp3 z1 z2 = cmp3 (cmp3 s1 0) (cmp3 s2 0) := by
        rw [hc1.out, hc2.out]
        have := cmp3_sgn b1 b2 z1.natAbs z2.natAbs Hbb.out Hp1.out Hp2.out
        rw [← Hz1.out, ← Hz2.out] at this
        exact this.symm
      rw [e5]; rfl

end Go.Proofs.YtdiojbgbeeojkaaGreatDoor
