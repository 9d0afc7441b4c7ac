/-
  Gcd.
-/
import Derived.Test.YtdiojbgbeeojkaaGreatDoorMGcD

namespace Go.Proofs.YtdiojbgbeeojkaaGreatDoor
open Go.RowKit

/-- A variable that holds a number. -/
structure Box (W : World) (g : Nat) (s : Int) (a : Option Addr) (n c : Nat) : Prop where
  row : W.heap[g]? = some (.cells #[.int .i64 s, .slice a n c] 24 (0, 0))
theorem Box.lt {W : World} {g : Nat} {s : Int} {a : Option Addr} {n c : Nat} (h : Box W g s a n c) : g < W.heap.size := (Array.getElem?_eq_some_iff.1 h.row).1
theorem Box.ext {W W' : World} {g : Nat} {s : Int} {a : Option Addr} {n c : Nat} (h : Box W g s a n c) (k : Ext W W') : Box W' g s a n c := ⟨(k.block _ h.lt).trans h.row⟩
theorem Box.c0 {W : World} {g : Nat} {s : Int} {a : Option Addr} {n c : Nat} (h : Box W g s a n c) : W.cell? ⟨g, 0, none⟩ = some (.int .i64 s) := by rw [cell_of_row W g 0 _ _ (0, 0) h.row]; rfl
theorem Box.c1 {W : World} {g : Nat} {s : Int} {a : Option Addr} {n c : Nat} (h : Box W g s a n c) : W.cell? ⟨g, 1, none⟩ = some (.slice a n c) := by rw [cell_of_row W g 1 _ _ (0, 0) h.row]; rfl
theorem Box.f0 {W : World} {g : Nat} {s : Int} {a : Option Addr} {n c : Nat} (h : Box W g s a n c) : W.frozen? ⟨g, 0, none⟩ = false := frozen_of_row W g 0 _ _ h.row
theorem Box.f1 {W : World} {g : Nat} {s : Int} {a : Option Addr} {n c : Nat} (h : Box W g s a n c) : W.frozen? ⟨g, 1, none⟩ = false := frozen_of_row W g 1 _ _ h.row
theorem Box.own {W : World} {g : Nat} {s : Int} {a : Option Addr} {n c : Nat} (h : Box W g s a n c) (s' : Int) (a' : Option Addr) (n' c' : Nat) : Box ((W.setCell ⟨g, 0, none⟩ (.int .i64 s')).setCell ⟨g, 1, none⟩ (.slice a' n' c')) g s' a' n' c' := by
  have h1 := heap_setCell_same W g 0 _ _ (.int .i64 s') h.row
  have h2 := heap_setCell_same (W.setCell ⟨g, 0, none⟩ (.int .i64 s')) g 1 _ _ (.slice a' n' c') h1
  exact ⟨h2⟩
theorem Box.put {W : World} {g h o : Nat} {s : Int} {a : Option Addr} {n c : Nat} (hb : Box W g s a n c) (hne : g ≠ h) (u : Value) : Box (W.setCell ⟨h, o, none⟩ u) g s a n c :=
  ⟨(Below.heap_setCell _ _ _ _ hne).trans hb.row⟩
theorem Res.box {W : World} {g : Nat} (h : Res W g) : Box W g 0 none 0 0 := ⟨h.row⟩
theorem box_new (w : World) (s : Int) (a : Option Addr) (n c : Nat) : Box (w.alloc (.cells #[.int .i64 s, .slice a n c] 24)) w.heap.size s a n c := ⟨heap_alloc_new w _⟩

/-- The words that lie at b, o. -/
def wordsAt (w : World) (b o n : Nat) : List Nat := (List.range n).map fun t => match w.cell? ⟨b, o + t, none⟩ with
  | some (.int .u64 x) => x.toNat
  | _ => 0
/-- The size of the number that a variable holds. -/
def boxAbs (w : World) (B : Nat) : Nat := match w.cell? ⟨B, 0, none⟩, w.cell? ⟨B, 1, none⟩ with
  | some (.int .i64 s), some (.slice none _ _) => s.natAbs
  | some _, some (.slice (some a) n _) => val (wordsAt w a.block a.off n)
  | _, _ => 0

theorem wordsAt_eq {w : World} {b o : Nat} {l : List Nat} (h : Seg w (some ⟨b, o, none⟩) l) : wordsAt w b o l.length = l := by
  rcases h with ⟨h, _⟩ | ⟨b', o', h, _, hc⟩
  · cases h
  · simp only [Option.some.injEq, Addr.mk.injEq, and_true] at h
    obtain ⟨rfl, rfl⟩ := h
    apply List.ext_getElem
    · simp [wordsAt]
    · intro i h1 h2
      have := hc i h2
      simp only [wordsAt, List.getElem_map, List.getElem_range, this]
      rw [List.getD_eq_getElem?_getD, List.getElem?_eq_getElem h2]
      simp

theorem boxAbs_eq {w : World} {B : Nat} {s : Int} {a : Option Addr} {n c : Nat} {z : Int} (h0 : w.cell? ⟨B, 0, none⟩ = some (.int .i64 s)) (h1 : w.cell? ⟨B, 1, none⟩ = some (.slice a n c)) (h : IsInt w s a n c z) : boxAbs w B = z.natAbs := by
  unfold boxAbs
  rw [h0, h1]
  rcases h with ⟨rfl, rfl, rfl, rfl, _⟩ | ⟨b, o, l, rfl, rfl, _, _, hs, _, _, hz⟩
  · rfl
  · show val (wordsAt w b o l.length) = _
    rw [wordsAt_eq hs]
    rcases hz with ⟨_, rfl, _⟩ | ⟨_, rfl, _⟩ <;> omega

theorem halve_abs {z : Int} {t : Nat} (h : Tw z.natAbs t) : (z / 2 ^ t).natAbs = z.natAbs / 2 ^ t := by
  have hz : z = sgn (decide (z < 0)) z.natAbs := by
    by_cases hn : z < 0
    · simp [sgn, hn]; omega
    · simp [sgn, hn]; omega
  have h1 := sgn_div (decide (z < 0)) z.natAbs t t h
  rw [if_neg (fun k => Nat.lt_irrefl _ k.2), ← hz] at h1
  rw [h1]
  generalize z.natAbs / 2 ^ t = q
  unfold sgn
  split <;> simp

theorem halve_from {w : World} {sm : Int} {ao : Option Addr} {n c : Nat} {z : Int} (h : IsInt w sm ao n c z) (k : Nat) (hk : k ≤ 1073741824) (K : Nat) (hK : K ≤ 4194304) (hK1 : 1 ≤ K) (hf : Fit K z) (hbr : Bru w) : ∀ wx : World, Ext w wx →
    Calls Tryz.prog 65 #[.agg #[.int .i64 sm, .slice ao n c], .int .u64 k] wx fun e w' => ∃ (s' : Int) (a' : Option Addr) (n' c' : Nat), e = .returned (.agg #[.int .i64 s', .slice a' n' c']) ∧ IsInt w' s' a' n' c' (z / 2 ^ k) ∧ Ext w w' ∧ Ext wx w' :=
  fun wx hx => (halve_any sm ao n c z k wx (h.ext hx) hk K hK hK1 hf (bru_ext hbr hx)).mono fun _ _ ⟨s', a', n', c', h1, h2, h3⟩ => ⟨s', a', n', c', h1, h2, hx.trans h3, h3⟩

theorem Twos_from {w : World} {sm : Int} {ao : Option Addr} {n c : Nat} {z : Int} (h : IsInt w sm ao n c z) (hn : n ≤ 16777216) (hz : z ≠ 0) (hbr : Bru w) : ∀ wx : World, Ext w wx →
    Calls Tryz.prog 64 #[.agg #[.int .i64 sm, .slice ao n c]] wx fun e w' => ∃ t : Nat, e = .returned (.int .i64 t) ∧ Hid (Tw z.natAbs t) ∧ t < 64 * n + 64 ∧ Ext w w' ∧ Ext wx w' :=
  fun wx hx => (Twos_any sm ao n c z wx (h.ext hx) hn (bru_ext hbr hx)).mono fun _ _ ⟨t, h1, h2, _, h4, h5⟩ => ⟨t, h1, h2 hz, h4, hx.trans h5, h5⟩

set_option maxHeartbeats 1600000 in
set_option maxRecDepth 100000 in
/-- One of them is 0. -/
theorem Gcd_zero (s1 s2 : Int) (a1 a2 : Option Addr) (n1 c1 n2 c2 : Nat) (z1 z2 : Int) (w : World) (h1 : IsInt w s1 a1 n1 c1 z1) (h2 : IsInt w s2 a2 n2 c2 z2) (K : Nat) (hK : K ≤ 4194304) (hf1 : Fit K z1) (hf2 : Fit K z2) (hz0 : z1 = 0 ∨ z2 = 0) :
    Calls Tryz.prog 33 #[.agg #[.int .i64 s1, .slice a1 n1 c1], .agg #[.int .i64 s2, .slice a2 n2 c2]] w fun e w' => ∃ (s' : Int) (a' : Option Addr) (n' c' : Nat), e = .returned (.agg #[.int .i64 s', .slice a' n' c']) ∧ IsInt w' s' a' n' c' (Nat.gcd z1.natAbs z2.natAbs : Nat) ∧ Ext w w' := by
  have Hf1 := hid hf1; have Hf2 := hid hf2; have H1 := hid h1; have H2 := hid h2
  have hc1 := h1.cmp3; have hc2 := h2.cmp3
  have hg : (z1 + z2).natAbs = Nat.gcd z1.natAbs z2.natAbs := by
    rcases hz0 with h | h
    · subst h; simp
    · subst h; simp
  have Hg := hid hg
  have Hs1 := hid (Sign_any s1 (.slice a1 n1 c1)); have Hs2 := hid (Sign_any s2 (.slice a2 n2 c2))
  obtain ⟨g1, hg1⟩ : ∃ g, cmp3 s1 0 = g := ⟨_, rfl⟩
  obtain ⟨g2, hg2⟩ : ∃ g, cmp3 s2 0 = g := ⟨_, rfl⟩
  rw [hg1] at Hs1; rw [hg2] at Hs2
  have hcase : g1 = 0 ∨ ((g1 == 0) = false ∧ g2 = 0) := by
    by_cases h : g1 = 0
    · exact Or.inl h
    · right
      refine ⟨by rw [beq_eq_false_iff_ne]; exact h, ?_⟩
      have h3 : z1 ≠ 0 := by
        intro h4
        apply h
        rw [← hg1, hc1, h4]; decide
      have h5 : z2 = 0 := hz0.resolve_left h3
      rw [← hg2, hc2, h5]; decide
  clear hf1 hf2 h1 h2 hc1 hc2 hz0 hg hg1 hg2
  have hbx := boxes2 w (.int .i64 s1) (.slice a1 n1 c1) (.int .i64 s2) (.slice a2 n2 c2)
  rcases hcase with rfl | ⟨hb1, rfl⟩
  · go_enter Tryz.func33, Tryz.ntmps33
    go_wp2_with fail
    generalize ((w.alloc (.cells #[.int .i64 s1, .slice a1 n1 c1] 24)).alloc (.cells #[.int .i64 s2, .slice a2 n2 c2] 24)).alloc (.cells #[.int .i64 0, .slice none 0 0] 24) = W0 at *
    refine (Hs1.out _).mono ?_
    rintro e we ⟨rfl, hxe⟩
    obtain ⟨y0, y1, y2, y3⟩ := keep4' hxe hbx
    go_wp2_with fail
    refine (Add_any s1 s2 a1 a2 n1 c1 n2 c2 z1 z2 we (H1.out.ext (hbx.ext.trans hxe)) (H2.out.ext (hbx.ext.trans hxe)) K hK Hf1.out Hf2.out).mono ?_
    rintro e wf ⟨s3, a3, n3, c3, rfl, hI3, hxf⟩
    go_wp2_with fail
    refine (withoutSign_any s3 a3 n3 c3 _ wf hI3).mono ?_
    rintro e wg ⟨s4, a4, n4, c4, rfl, hI4, hxg⟩
    have hr4 := hbx.res.ext (hxe.trans (hxf.trans hxg))
    have k0 := hr4.c0; have k1 := hr4.c1; have g0 := hr4.f0; have g1 := hr4.f1
    go_wp2_with fail
    exact bodyPost_ret (v := .agg #[.int .i64 s4, .slice a4 n4 c4]) (by simp [results, Tryz.results33, go_sem, k0, k1]) rfl ⟨s4, a4, n4, c4, rfl, (hI4.cast (by rw [Hg.out])).keep64 (Keep64.set2 (.i64 k0) (.slice k1) (notW_i64 _) _), (hbx.ext.trans (hxe.trans (hxf.trans hxg))).put2 (by omega) _ _⟩
  · go_enter Tryz.func33, Tryz.ntmps33
    go_wp2_with fail
    generalize ((w.alloc (.cells #[.int .i64 s1, .slice a1 n1 c1] 24)).alloc (.cells #[.int .i64 s2, .slice a2 n2 c2] 24)).alloc (.cells #[.int .i64 0, .slice none 0 0] 24) = W0 at *
    refine (Hs1.out _).mono ?_
    rintro e wd ⟨rfl, hxd⟩
    obtain ⟨x0, x1, x2, x3⟩ := keep4' hxd hbx
    go_wp2_with fail
    refine (Hs2.out _).mono ?_
    rintro e we ⟨rfl, hxe'⟩
    have hxe := hxd.trans hxe'
    obtain ⟨y0, y1, y2, y3⟩ := keep4' hxe hbx
    clear x0 x1 x2 x3
    go_wp2_with fail
    refine (Add_any s1 s2 a1 a2 n1 c1 n2 c2 z1 z2 we (H1.out.ext (hbx.ext.trans hxe)) (H2.out.ext (hbx.ext.trans hxe)) K hK Hf1.out Hf2.out).mono ?_
    rintro e wf ⟨s3, a3, n3, c3, rfl, hI3, hxf⟩
    go_wp2_with fail
    refine (withoutSign_any s3 a3 n3 c3 _ wf hI3).mono ?_
    rintro e wg ⟨s4, a4, n4, c4, rfl, hI4, hxg⟩
    have hr4 := hbx.res.ext (hxe.trans (hxf.trans hxg))
    have k0 := hr4.c0; have k1 := hr4.c1; have g0 := hr4.f0; have g1 := hr4.f1
    go_wp2_with fail
    exact bodyPost_ret (v := .agg #[.int .i64 s4, .slice a4 n4 c4]) (by simp [results, Tryz.results33, go_sem, k0, k1]) rfl ⟨s4, a4, n4, c4, rfl, (hI4.cast (by rw [Hg.out])).keep64 (Keep64.set2 (.i64 k0) (.slice k1) (notW_i64 _) _), (hbx.ext.trans (hxe.trans (hxf.trans hxg))).put2 (by omega) _ _⟩

end Go.Proofs.YtdiojbgbeeojkaaGreatDoor

/-
  Gcd, where neither is 0.
-/
namespace Go.Proofs.YtdiojbgbeeojkaaGreatDoor
open Go.RowKit

theorem Bx.sg {sg z s : Int} (hsg : cmp3 s 0 = sg) (hc : cmp3 s 0 = cmp3 z 0) (hz : z ≠ 0) : (sg == 0) = false := by
  rw [beq_eq_false_iff_ne, ← hsg, hc]
  unfold cmp3
  split
  · decide
  · split
    · decide
    · omega

set_option maxHeartbeats 2000000 in
set_option maxRecDepth 100000 in
theorem Gcd_any (s1 s2 : Int) (a1 a2 : Option Addr) (n1 c1 n2 c2 : Nat) (z1 z2 : Int) (w : World) (h1 : IsInt w s1 a1 n1 c1 z1) (h2 : IsInt w s2 a2 n2 c2 z2) (K : Nat) (hK : K ≤ 4194304) (hK1 : 1 ≤ K) (hf1 : Fit K z1) (hf2 : Fit K z2) (hz1 : z1 ≠ 0) (hz2 : z2 ≠ 0) (hbr : Bru w) :
    Calls Tryz.prog 33 #[.agg #[.int .i64 s1, .slice a1 n1 c1], .agg #[.int .i64 s2, .slice a2 n2 c2]] w fun e w' => ∃ (s' : Int) (a' : Option Addr) (n' c' : Nat), e = .returned (.agg #[.int .i64 s', .slice a' n' c']) ∧ IsInt w' s' a' n' c' (Nat.gcd z1.natAbs z2.natAbs : Nat) ∧ Ext w w' := by
  have hn1 := h1.len hf1; have hn2 := h2.len hf2
  have Hf1 := hid hf1; have Hf2 := hid hf2; have H1 := hid h1; have H2 := hid h2; have Hz1 := hid hz1; have Hz2 := hid hz2; have Hbr := hid hbr
  have Hs1 := hid (Sign_any s1 (.slice a1 n1 c1)); have Hs2 := hid (Sign_any s2 (.slice a2 n2 c2))
  obtain ⟨g1, hg1⟩ : ∃ g, cmp3 s1 0 = g := ⟨_, rfl⟩
  obtain ⟨g2, hg2⟩ : ∃ g, cmp3 s2 0 = g := ⟨_, rfl⟩
  have hb1 := Bx.sg hg1 h1.cmp3 hz1; have hb2 := Bx.sg hg2 h2.cmp3 hz2
  rw [hg1] at Hs1; rw [hg2] at Hs2
  clear hf1 hf2 h1 h2 hz1 hz2 hg1 hg2 hbr
  have hbx := boxes2 w (.int .i64 s1) (.slice a1 n1 c1) (.int .i64 s2) (.slice a2 n2 c2)
  have bxA := ((box_new w s1 a1 n1 c1).ext (Ext.alloc _ (.cells #[.int .i64 s2, .slice a2 n2 c2] 24))).ext (Ext.alloc _ (.cells #[.int .i64 0, .slice none 0 0] 24))
  have bxB := (box_new (w.alloc (.cells #[.int .i64 s1, .slice a1 n1 c1] 24)) s2 a2 n2 c2).ext (Ext.alloc _ (.cells #[.int .i64 0, .slice none 0 0] 24))
  rw [show (w.alloc (.cells #[.int .i64 s1, .slice a1 n1 c1] 24)).heap.size = w.heap.size + 1 from by simp] at bxB
  go_enter Tryz.func33, Tryz.ntmps33
  go_wp2_with fail
  generalize ((w.alloc (.cells #[.int .i64 s1, .slice a1 n1 c1] 24)).alloc (.cells #[.int .i64 s2, .slice a2 n2 c2] 24)).alloc (.cells #[.int .i64 0, .slice none 0 0] 24) = W0 at *
  refine (Hs1.out _).mono ?_
  rintro e wd ⟨rfl, hxd⟩
  obtain ⟨x0, x1, x2, x3⟩ := keep4' hxd hbx
  go_wp2_with fail
  refine (Hs2.out _).mono ?_
  rintro e we ⟨rfl, hxe'⟩
  have hxe := hxd.trans hxe'
  obtain ⟨y0, y1, y2, y3⟩ := keep4' hxe hbx
  have hBe : w.heap.size + 2 < we.heap.size := by have := hbx.size; have := hxe.size; omega
  have HEe : Hid (Ext w we) := hbx.ext.trans hxe
  have Ht1 := hid (Twos_from (H1.out.ext HEe.out) (by omega) Hz1.out (bru_ext Hbr.out HEe.out)); have Ht2 := hid (Twos_from (H2.out.ext HEe.out) (by omega) Hz2.out (bru_ext Hbr.out HEe.out))
  have hed : Ext we we.drew := Below.drew (Ext.refl _)
  clear x0 x1 x2 x3
  go_wp2_with fail
  go_region_held3 (fun w' => w'.cell? ⟨w.heap.size, 0, none⟩ = some (.int .i64 s1) ∧ w'.cell? ⟨w.heap.size, 1, none⟩ = some (.slice a1 n1 c1) ∧ w'.cell? ⟨w.heap.size + 1, 0, none⟩ = some (.int .i64 s2) ∧ w'.cell? ⟨w.heap.size + 1, 1, none⟩ = some (.slice a2 n2 c2)) (exact keep4 (by assumption) (by omega) y0 y1 y2 y3)
    (first | (go_at_call_of 64 s1; refine (Ht1.out _ (by assumption)).mono ?_; rintro e wa ⟨t1, rfl, Htw1, htl1, hea, hxa⟩) | (go_at_call_of 64 s2; refine (Ht2.out _ (by assumption)).mono ?_; rintro e wb ⟨t2, rfl, Htw2, htl2, heb, hxb⟩))
  obtain ⟨u0, u1, u2, u3⟩ := keep4 heb (by omega) y0 y1 y2 y3
  have hBb : w.heap.size + 2 < wb.heap.size := by have := heb.size; omega
  have HEb : Hid (Ext w wb) := HEe.out.trans heb
  have rb := hbx.res.ext (hxe.trans heb); have bA := bxA.ext (hxe.trans heb); have bB := bxB.ext (hxe.trans heb)
  have Hh1 := hid (halve_from (H1.out.ext HEb.out) t1 (by omega) K hK hK1 Hf1.out (bru_ext Hbr.out HEb.out)); have Hh2 := hid (halve_from (H2.out.ext HEb.out) t2 (by omega) K hK hK1 Hf2.out (bru_ext Hbr.out HEb.out))
  have hbd : Ext wb wb.drew := Below.drew (Ext.refl _)
  clear y0 y1 y2 y3 hea hxa heb hxb hed hxe hxe' hxd
  go_wp2_with fail
  have ew1 : IntKind.u64.wrap (t1 : Int) = (t1 : Int) := by rw [IntKind.wrap_u64]; omega
  have ew2 : IntKind.u64.wrap (t2 : Int) = (t2 : Int) := by rw [IntKind.wrap_u64]; omega
  rw [ew1, ew2]
  clear ew1 ew2
  go_region_with (first | (go_at_call_of 65 s1; refine (Hh1.out _ (by assumption)).mono ?_; rintro e w5 ⟨s5, a5, n5, c5, rfl, hI5, he5, hx5⟩; have v2 := cellKeep he5 (by omega) u2; have v3 := cellKeep he5 (by omega) u3) | (go_at_call_of 65 s2; refine (Hh2.out _ (by assumption)).mono ?_; rintro e w6 ⟨s6, a6, n6, c6, rfl, hI6, he6, hx6⟩; have bA6 := bA.ext he6; have bB6 := bB.ext he6; have k0 := bA6.c0; have k1 := bA6.c1; have g0 := bA6.f0; have g1 := bA6.f1; have k2 := bB6.c0; have k3 := bB6.c1; have g2 := bB6.f0; have g3 := bB6.f1))
  all_goals
    have rb6 := (rb.ext he6).box
    have hkk := Keep64.set4 (w := w6) (.i64 k0) (.slice k1) (.i64 k2) (.slice k3) (notW_i64 s5) (notW_slice a5 n5 c5) (notW_i64 s6) (.slice a6 n6 c6)
    have bA7 := ((bA6.own s5 a5 n5 c5).put (h := w.heap.size + 1) (o := 0) (by omega) (.int .i64 s6)).put (h := w.heap.size + 1) (o := 1) (by omega) (.slice a6 n6 c6)
    have bB7 := ((bB6.put (h := w.heap.size) (o := 0) (by omega) (.int .i64 s5)).put (h := w.heap.size) (o := 1) (by omega) (.slice a5 n5 c5)).own s6 a6 n6 c6
    have bR7 := (((rb6.put (h := w.heap.size) (o := 0) (by omega) (.int .i64 s5)).put (h := w.heap.size) (o := 1) (by omega) (.slice a5 n5 c5)).put (h := w.heap.size + 1) (o := 0) (by omega) (.int .i64 s6)).put (h := w.heap.size + 1) (o := 1) (by omega) (.slice a6 n6 c6)
    have I5 := (hI5.ext hx6).keep64 hkk
    have I6 := hI6.keep64 hkk
    have E7 := ((HEb.out.trans he6).put2 (g := w.heap.size) (o := 0) (o' := 1) (by omega) (.int .i64 s5) (.slice a5 n5 c5)).put2 (g := w.heap.size + 1) (o := 0) (o' := 1) (by omega) (.int .i64 s6) (.slice a6 n6 c6)
    have HG : Hid (Nat.gcd z1.natAbs z2.natAbs = 2 ^ (min t1 t2) * Nat.gcd (z1 / 2 ^ t1).natAbs (z2 / 2 ^ t2).natAbs) := by
      show _ = _
      rw [halve_abs Htw1.out, halve_abs Htw2.out]
      exact gcd_twos Htw1.out Htw2.out
    have Hfa : Hid (Fit K (z1 / 2 ^ t1)) := Hf1.out.le (by rw [halve_abs Htw1.out]; exact Nat.div_le_self _ _)
    have Hfb : Hid (Fit K (z2 / 2 ^ t2)) := Hf2.out.le (by rw [halve_abs Htw2.out]; exact Nat.div_le_self _ _)
    generalize (((w6.setCell ⟨w.heap.size, 0, none⟩ (.int .i64 s5)).setCell ⟨w.heap.size, 1, none⟩ (.slice a5 n5 c5)).setCell ⟨w.heap.size + 1, 0, none⟩ (.int .i64 s6)).setCell ⟨w.heap.size + 1, 1, none⟩ (.slice a6 n6 c6) = W7 at *
    clear hkk k0 k1 k2 k3 g0 g1 g2 g3 bA6 bB6 rb6 rb bA bB u0 u1 u2 u3 hI5 hI6 he5 he6 hx5 hx6 hbd
    obtain ⟨G, hG⟩ : ∃ G, Nat.gcd (z1 / 2 ^ t1).natAbs (z2 / 2 ^ t2).natAbs = G := ⟨_, rfl⟩
    rw [hG] at HG
    have HG' := hid hG
    clear hG
    go_wp2_with fail
    go_loopw [8] (fun _ wr => ∃ (sA : Int) (aA : Option Addr) (nA cA : Nat) (zA sB : Int) (aB : Option Addr) (nB cB : Nat) (zB : Int), Box wr w.heap.size sA aA nA cA ∧ Box wr (w.heap.size + 1) sB aB nB cB ∧ Box wr (w.heap.size + 1 + 1) 0 none 0 0 ∧ IsInt wr sA aA nA cA zA ∧ IsInt wr sB aB nB cB zB ∧ Fit K zA ∧ Fit K zB ∧ Nat.gcd zA.natAbs zB.natAbs = G ∧ Ext w wr) (fun _ wr => boxAbs wr (w.heap.size + 1))
    case atStart => exact ⟨s5, a5, n5, c5, _, s6, a6, n6, c6, _, bA7, bB7, bR7, I5, I6, Hfa.out, Hfb.out, HG'.out, E7⟩
    case round =>
      clear bA7 bB7 bR7 I5 I6 E7
      obtain ⟨sA, aA, nA, cA, zA, sB, aB, nB, cB, zB, bA, bB, bR, IA, IB, fA, fB, hgc, hEr⟩ := hrel
      have HIA := hid IA; have HIB := hid IB; have HfA := hid fA; have HfB := hid fB; have Hgc := hid hgc
      have Hm : Hid (boxAbs wr (w.heap.size + 1) = zB.natAbs) := boxAbs_eq bB.c0 bB.c1 IB
      have Hs := hid (Sign_any sB (.slice aB nB cB))
      have hcB := IB.cmp3
      obtain ⟨g, hg⟩ : ∃ g, cmp3 sB 0 = g := ⟨_, rfl⟩
      rw [hg] at Hs
      have k0 := bA.c0; have k1 := bA.c1; have k2 := bB.c0; have k3 := bB.c1
      by_cases hzB : zB = 0
      · have hg0 : g = 0 := by rw [← hg, hcB, hzB]; decide
        subst hg0
        have Hfin : Hid (zA.natAbs = G) := by
          show _ = _
          have := Hgc.out
          rw [hzB] at this
          simpa using this
        clear IA IB fA fB hgc hcB hg hzB
        go_wp2_with fail
        refine (Hs.out _).mono ?_
        rintro e we ⟨rfl, hxe⟩
        have x0 := cellKeep hxe bA.lt k0; have x1 := cellKeep hxe bA.lt k1
        go_wp2_with fail
        refine (withoutSign_any sA aA nA cA zA we (HIA.out.ext hxe)).mono ?_
        rintro e wf ⟨s8, a8, n8, c8, rfl, hI8, hxf⟩
        go_wp2_with fail
        have em : min (t1 : Int) (t2 : Int) = ((min t1 t2 : Nat) : Int) := by omega
        rw [em]
        refine (double_any s8 a8 n8 c8 _ (min t1 t2) wf hI8 (by omega) K hK (HfA.out.le (by simp))).mono ?_
        rintro e wg ⟨s9, a9, n9, c9, rfl, hI9, hxg⟩
        have hr9 := bR.ext (hxe.trans (hxf.trans hxg))
        have j0 := hr9.c0; have j1 := hr9.c1; have f0 := hr9.f0; have f1 := hr9.f1
        have Hc : ((zA.natAbs : Nat) : Int) * 2 ^ min t1 t2 = ((Nat.gcd z1.natAbs z2.natAbs : Nat) : Int) := by
          rw [HG.out, Hfin.out, Nat.mul_comm]
          simp
        have HC := hid Hc
        have HE9 : Hid (Ext w wg) := hEr.trans (hxe.trans (hxf.trans hxg))
        clear em Hc x0 x1 k0 k1 k2 k3
        go_wp2_with fail
        exact bodyPost_ret (v := .agg #[.int .i64 s9, .slice a9 n9 c9]) (by simp [results, Tryz.results33, go_sem, j0, j1]) rfl ⟨s9, a9, n9, c9, rfl, (hI9.cast HC.out).keep64 (Keep64.set2 (.i64 j0) (.slice j1) (notW_i64 _) _), HE9.out.put2 (by omega) _ _⟩
      · have hbn : (g != 0) = true := by
          have := Bx.sg hg hcB hzB
          rw [bne, this]; rfl
        have HzB := hid hzB
        have Hdt := hid (fun wx (hx : Ext wr wx) => divTowards_any sA sB aA aB nA cA nB cB zA zB wx (HIA.out.ext hx) (HIB.out.ext hx) K hK HfA.out HfB.out HzB.out)
        clear IA IB fA fB hgc hcB hg hzB
        go_wp2_with fail
        refine (Hs.out _).mono ?_
        rintro e we ⟨rfl, hxe⟩
        have x0 := cellKeep hxe bA.lt k0; have x1 := cellKeep hxe bA.lt k1; have x2 := cellKeep hxe bB.lt k2; have x3 := cellKeep hxe bB.lt k3
        clear k0 k1 k2 k3
        go_wp2_with fail
        refine (Hdt.out _ hxe).mono ?_
        rintro e wf ⟨s3, a3, n3, c3, s4, a4, n4, c4, rfl, hI3, hI4, hxf⟩
        have hE1 := Ext.alloc wf (.cells #[.int .i64 s3, .slice a3 n3 c3] 24)
        have hE2 := Ext.alloc (wf.alloc (.cells #[.int .i64 s3, .slice a3 n3 c3] 24)) (.cells #[.int .i64 s4, .slice a4 n4 c4] 24)
        have b4 := box_new (wf.alloc (.cells #[.int .i64 s3, .slice a3 n3 c3] 24)) s4 a4 n4 c4
        rw [show (wf.alloc (.cells #[.int .i64 s3, .slice a3 n3 c3] 24)).heap.size = wf.heap.size + 1 from by simp] at b4
        have hE3 := (hxe.trans hxf).trans (hE1.trans hE2)
        have I4 := hI4.ext (hE1.trans hE2)
        have hw3 : w.heap.size + 2 < wf.heap.size := by have := bR.lt; have := hxe.size; have := hxf.size; omega
        clear x0 x1 x2 x3
        go_wp2_with fail
        generalize (wf.alloc (.cells #[.int .i64 s3, .slice a3 n3 c3] 24)).alloc (.cells #[.int .i64 s4, .slice a4 n4 c4] 24) = W8 at *
        have bA8 := bA.ext hE3; have bB8 := bB.ext hE3; have bR8 := bR.ext hE3
        have k0 := bA8.c0; have k1 := bA8.c1; have g0 := bA8.f0; have g1 := bA8.f1; have k2 := bB8.c0; have k3 := bB8.c1; have g2 := bB8.f0; have g3 := bB8.f1; have j0 := b4.c0; have j1 := b4.c1
        have hkk := Keep64.set4 (w := W8) (.i64 k0) (.slice k1) (.i64 k2) (.slice k3) (notW_i64 sB) (notW_slice aB nB cB) (notW_i64 s4) (.slice a4 n4 c4)
        have bA9 := ((bA8.own sB aB nB cB).put (h := w.heap.size + 1) (o := 0) (by omega) (.int .i64 s4)).put (h := w.heap.size + 1) (o := 1) (by omega) (.slice a4 n4 c4)
        have bB9 := ((bB8.put (h := w.heap.size) (o := 0) (by omega) (.int .i64 sB)).put (h := w.heap.size) (o := 1) (by omega) (.slice aB nB cB)).own s4 a4 n4 c4
        have bR9 := (((bR8.put (h := w.heap.size) (o := 0) (by omega) (.int .i64 sB)).put (h := w.heap.size) (o := 1) (by omega) (.slice aB nB cB)).put (h := w.heap.size + 1) (o := 0) (by omega) (.int .i64 s4)).put (h := w.heap.size + 1) (o := 1) (by omega) (.slice a4 n4 c4)
        have IB9 := (HIB.out.ext hE3).keep64 hkk
        have I49 := I4.keep64 hkk
        have E9 := ((hEr.trans hE3).put2 (g := w.heap.size) (o := 0) (o' := 1) (by omega) (.int .i64 sB) (.slice aB nB cB)).put2 (g := w.heap.size + 1) (o := 0) (o' := 1) (by omega) (.int .i64 s4) (.slice a4 n4 c4)
        have HbA9 := hid bA9; have HbB9 := hid bB9; have HbR9 := hid bR9; have HIB9 := hid IB9; have HI49 := hid I49; have HE9 := hid E9
        clear bA9 bB9 bR9 IB9 I49 E9 hkk bA bB bR bA8 bB8 bR8 b4
        go_region
        go_wp2_with fail
        have hdr : ∀ X : World, Ext X X.drew := fun X => Below.drew (Ext.refl _)
        go_roundw
        case rel => exact ⟨sB, aB, nB, cB, zB, s4, a4, n4, c4, _, HbA9.out.ext (hdr _), HbB9.out.ext (hdr _), HbR9.out.ext (hdr _), HIB9.out.ext (hdr _), HI49.out.ext (hdr _), HfB.out, HfB.out.le (by rw [Int.natAbs_tmod]; exact Nat.le_of_lt (Nat.mod_lt _ (by have := HzB.out; omega))), (gcd_step zA zB HzB.out).trans Hgc.out, HE9.out.trans (hdr _)⟩
        case measure =>
          rw [Hm.out, boxAbs_eq (HbB9.out.ext (hdr _)).c0 (HbB9.out.ext (hdr _)).c1 (HI49.out.ext (hdr _)), Int.natAbs_tmod]
          exact Nat.mod_lt _ (by have := HzB.out; omega)

end Go.Proofs.YtdiojbgbeeojkaaGreatDoor
