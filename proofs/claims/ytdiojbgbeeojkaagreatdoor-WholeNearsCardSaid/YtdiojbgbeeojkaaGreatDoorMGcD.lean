/-
  halve: over a power of two, rounded down.
-/
import Derived.Test.YtdiojbgbeeojkaaGreatDoorMGcA

namespace Go.Proofs.YtdiojbgbeeojkaaGreatDoor
open Go.RowKit

/-- A number that a call has put into a variable of its own. -/
structure OutAt (W0 W : World) (g : Nat) (s : Int) (a : Option Addr) (n c : Nat) (z : Int) : Prop where
  ext : Ext W0 W
  lt : g < W.heap.size
  ge : W0.heap.size ≤ g
  o0 : W.cell? ⟨g, 0, none⟩ = some (.int .i64 s)
  o1 : W.cell? ⟨g, 1, none⟩ = some (.slice a n c)
  int : IsInt W s a n c z

theorem outLate {W0 w4 : World} {s : Int} {a : Option Addr} {n c : Nat} {z : Int} (he : Ext W0 w4) (hI : IsInt w4 s a n c z) : OutAt W0 (w4.alloc (.cells #[.int .i64 s, .slice a n c] 24)) w4.heap.size s a n c z :=
  ⟨he.then _, by simp, he.size, by simp, by simp, hI.ext (Ext.alloc _ _)⟩
theorem outEarly {W0 w4 : World} {g : Nat} {s : Int} {a : Option Addr} {n c : Nat} {z : Int} (he : Ext W0 w4) (hI : IsInt w4 s a n c z) (hg : W0.heap.size ≤ g) (hR : Res w4 g) : OutAt W0 ((w4.setCell ⟨g, 0, none⟩ (.int .i64 s)).setCell ⟨g, 1, none⟩ (.slice a n c)) g s a n c z := by
  have k0 := hR.c0; have k1 := hR.c1
  refine ⟨he.put2 hg _ _, by simp [World.setCell]; exact hR.lt, hg, ?_, ?_, hI.keep64 (Keep64.set2 (.i64 k0) (.slice k1) (notW_i64 _) _)⟩
  · rw [World.cell?_setCell_other _ _ _ _ (by simp), World.cell?_setCell_same _ _ _ k0]
  · refine World.cell?_setCell_same _ _ _ (u := .slice none 0 0) ?_
    rw [World.cell?_setCell_other _ _ _ _ (by simp)]; exact k1
theorem res_new (w : World) : Res (w.alloc (.cells #[.int .i64 0, .slice none 0 0] 24)) w.heap.size := ⟨by simp, heap_alloc_new w _⟩

theorem res_newd (w : World) : Res (w.alloc (.cells #[.int .i64 0, .slice none 0 0] 24)).drew w.heap.size := (res_new w).ext (Below.drew (Ext.refl _))

theorem sgn_div (b : Bool) (v k : Nat) (t : Nat) (h : Tw v t) : sgn b v / 2 ^ k = if b = true ∧ t < k then sgn b (v / 2 ^ k) - 1 else sgn b (v / 2 ^ k) := by
  have hp : 0 < 2 ^ k := Nat.pow_pos (by decide)
  have hd := h.dvd k
  cases b
  · simp [sgn]
  · have := neg_div v (2 ^ k) hp
    simp only [sgn, if_true]
    have e : ((2 ^ k : Nat) : Int) = 2 ^ k := by simp
    rw [e] at this
    rw [this]
    by_cases hk : t < k
    · rw [if_neg (fun h0 => by have := hd.1 h0; omega), if_pos ⟨trivial, hk⟩]
    · rw [if_pos (hd.2 (by omega)), if_neg (fun h0 => hk h0.2)]

set_option maxHeartbeats 1600000 in
set_option maxRecDepth 100000 in
theorem halve_any (sm : Int) (ao : Option Addr) (n c : Nat) (z : Int) (k : Nat) (w : World) (h : IsInt w sm ao n c z) (hk : k ≤ 1073741824) (K : Nat) (hK : K ≤ 4194304) (hK1 : 1 ≤ K) (hf : Fit K z) (hbr : Bru w) :
    Calls Tryz.prog 65 #[.agg #[.int .i64 sm, .slice ao n c], .int .u64 k] w fun e w' => ∃ (s' : Int) (a' : Option Addr) (n' c' : Nat), e = .returned (.agg #[.int .i64 s', .slice a' n' c']) ∧ IsInt w' s' a' n' c' (z / 2 ^ k) ∧ Ext w w' := by
  have q1 := eql_nil ao n c 0 0
  have hzb := h.bool
  have hnK := h.len hf
  rcases h with ⟨rfl, rfl, rfl, rfl, r1, r2⟩ | ⟨b, o, l, rfl, hl, hnc, hcm, hs, hd, hr, hz⟩
  · obtain ⟨q, hq⟩ : ∃ q, sm / 2 ^ min k 64 = q := ⟨_, rfl⟩
    have hqr : -9223372036854775808 ≤ q ∧ q ≤ 9223372036854775807 := by
      have hp : (0 : Int) < 2 ^ min k 64 := Int.pow_pos (by decide)
      rw [← hq]
      constructor
      · by_cases hneg : sm < 0
        · have h3 : sm ≤ sm / 2 ^ min k 64 := by
            generalize (2 : Int) ^ min k 64 = p at *
            exact (Int.le_ediv_iff_mul_le hp).2 (by have : sm * p ≤ sm * 1 := Int.mul_le_mul_of_nonpos_left (by omega) (by omega); omega)
          omega
        · have := Int.ediv_nonneg (a := sm) (b := 2 ^ min k 64) (by omega) (by omega); omega
      · have h4 : sm / 2 ^ min k 64 ≤ (if sm < 0 then 0 else sm) := by
          split
          · exact Int.le_of_lt (Int.ediv_neg_of_neg_of_pos (by assumption) hp)
          · exact Int.ediv_le_self _ (by omega)
        split at h4 <;> omega
    have hfin := shr_small sm k r1 r2
    rw [hq] at hfin
    rw [← hfin]
    have hno : (none : Option Addr).isNone = true := rfl
    clear hf hzb hfin hbr r1 r2
    go_enter Tryz.func65, Tryz.ntmps65
    go_wp2
    exact bodyPost_ret (v := .agg #[.int .i64 q, .slice none 0 0]) (by simp [results, Tryz.results65, go_sem]) rfl ⟨q, none, 0, 0, rfl, IsInt.small _ _ hqr.1 hqr.2, (Ext.alloc _ _).then _⟩
  · have hno : (some (⟨b, o, none⟩ : Addr)).isNone = false := rfl
    have HI : Hid (IsInt w sm (some ⟨b, o, none⟩) n c z) := Or.inr ⟨b, o, l, rfl, hl, hnc, hcm, hs, hd, hr, hz⟩
    have Hzv : Hid (z.natAbs = val l) := by show _ = _; rcases hz with ⟨_, h, _⟩ | ⟨_, h, _⟩ <;> omega
    have Hz0 : Hid (z ≠ 0) := by show _ ≠ _; rcases hz with ⟨_, h, _⟩ | ⟨_, h, _⟩ <;> omega
    obtain ⟨bb, hbb⟩ : ∃ bb, decide (sm < 0) = bb := ⟨_, rfl⟩
    rw [hbb] at hzb
    have Hzb := hid hzb; have Hbb := hid hbb; have Hl := hid hl; have Hs := hid hs; have Hd := hid hd; have Hf := hid hf; have Hbr := hid hbr
    clear hz hl hs hd hr hzb hbb hf hbr
    go_enter Tryz.func65, Tryz.ntmps65
    go_wp2_with fail
    have hbx := boxes1 w (.int .i64 sm) (.slice (some ⟨b, o, none⟩) n c)
    generalize (w.alloc (.cells #[.int .i64 sm, .slice (some ⟨b, o, none⟩) n c] 24)).alloc (.cells #[.int .i64 0, .slice none 0 0] 24) = W0 at *
    have hB : w.heap.size < W0.heap.size := by have := hbx.size; omega
    have hnn := negative_from (w := W0) sm (.slice (some ⟨b, o, none⟩) n c)
    rw [Hbb.out] at hnn
    have Hn := hid hnn; have Hsd := hid (shiftDown_from (w := W0) k hk); have Hfw := hid (fromWords_from (w := W0) bb)
    have Hs0 := hid (Hs.out.ext hbx.ext)
    have hE0d : Ext W0 W0.drew := Below.drew (Ext.refl _)
    have c0 := hbx.c0; have c1 := hbx.c1
    clear hnn
    have z0 := hE0d.size
    have hE00 : Ext W0 W0 := Ext.refl _
    go_region_held3 (fun w' => w'.cell? ⟨w.heap.size, 0, none⟩ = some (.int .i64 sm) ∧ w'.cell? ⟨w.heap.size, 1, none⟩ = some (.slice (some ⟨b, o, none⟩) n c))
      (refine ⟨?_, ?_⟩ <;> (repeat (refine cellPut (by omega) ?_)) <;> (first | exact cellKeep (W := W0) (by assumption) (by omega) (by assumption) | exact cellKeep (W := W0) (Ext.then (by assumption) _) (by omega) (by assumption)))
      (first | (go_at_call 43; (first | (refine (Hn.out _ (by assumption)).mono ?_; rintro e w1 ⟨rfl, he1, hx1⟩; have z1 := he1.size) | (refine (Hn.out _ (Ext.then (by assumption) _)).mono ?_; rintro e w1 ⟨rfl, he1, hx1⟩; have z1 := he1.size; have hRg := (res_new _).ext hx1) | (refine (Hn.out _ (Below.drew (Ext.then (by assumption) _))).mono ?_; rintro e w1 ⟨rfl, he1, hx1⟩; have z1 := he1.size; have hRg := (res_newd _).ext hx1))) | (go_at_call 91; (first | (refine (Hsd.out _ (some ⟨b, o, none⟩) l n c (by assumption) Hl.out (Hs0.out.ext (by assumption)) Hd.out hnc hcm (by omega)).mono ?_; rintro e w3 ⟨a3, l3, n3, c3, rfl, hl3, hn3, hc3, hs3, hd3, hm3, Hv3, he3, hx3⟩; have Hl3 := hid hl3; clear hl3; have z3 := he3.size; try have hRg := hRg.ext hx3) | (refine (Hsd.out _ (some ⟨b, o, none⟩) l n c (Ext.then (by assumption) _) Hl.out (Hs0.out.ext (Ext.then (by assumption) _)) Hd.out hnc hcm (by omega)).mono ?_; rintro e w3 ⟨a3, l3, n3, c3, rfl, hl3, hn3, hc3, hs3, hd3, hm3, Hv3, he3, hx3⟩; have Hl3 := hid hl3; clear hl3; have z3 := he3.size; have hRg := (res_new _).ext hx3))) | (go_at_call 62; (first | (refine (Hfw.out _ a3 l3 n3 c3 (by assumption) Hl3.out hs3 hd3 hn3 hc3).mono ?_; rintro e w4 ⟨s4, a4, n4, c4, rfl, hI4, he4, hx4⟩; have z4 := he4.size; try (have hRg := hRg.ext hx4; have k0 := hRg.c0; have k1 := hRg.c1; have g0 := hRg.f0; have g1 := hRg.f1)) | (refine (Hfw.out _ a3 l3 n3 c3 (Ext.then (by assumption) _) Hl3.out (hs3.ext (Ext.alloc _ _)) hd3 hn3 hc3).mono ?_; rintro e w4 ⟨s4, a4, n4, c4, rfl, hI4, he4, hx4⟩; have z4 := he4.size; have hRg := (res_new _).ext hx4; have k0 := hRg.c0; have k1 := hRg.c1; have g0 := hRg.f0; have g1 := hRg.f1))))
    · go_wp2_with fail
      have hO := outLate he4 hI4
      have HO := hid hO
      have Hval : Hid (∀ t, Tw z.natAbs t → z / 2 ^ k = if bb = true ∧ t < k then sgn bb (val l3) - 1 else sgn bb (val l3)) := by
        intro t ht
        rw [Hv3.out, ← Hzv.out, ← sgn_div bb z.natAbs k t ht, ← Hzb.out]
      have Hf4 : Hid (Fit K (sgn bb (val l3))) := by
        refine Hf.out.le ?_
        have e : (sgn bb (val l3)).natAbs = val l3 := by cases bb <;> simp [sgn]
        rw [e, Hv3.out, Hzv.out]
        exact Nat.div_le_self _ _
      refine (Hn.out _ hO.ext).mono ?_
      rintro e w6 ⟨rfl, he6, hx6⟩
      have o0 := cellKeep hx6 HO.out.lt HO.out.o0; have o1 := cellKeep hx6 HO.out.lt HO.out.o1
      have I6 := HO.out.int.ext hx6
      have ho6 := HO.out.ge
      have hlt6 := Nat.lt_of_lt_of_le HO.out.lt hx6.size
      have ho7 : W0.heap.size ≤ w6.heap.size := he6.size
      have y0 := cellKeep he6 hB c0; have y1 := cellKeep he6 hB c1
      have hr6 := hbx.res.ext he6
      have HE6 : Hid (Ext w w6) := hbx.ext.trans he6
      have hsz : w.heap.size + 1 < W0.heap.size := by have := hbx.size; omega
      clear hO
      cases bb
      case false =>
        have k0' := hr6.c0; have k1' := hr6.c1; have g0' := hr6.f0; have g1' := hr6.f1
        go_wp2_with fail
        have Hc : sgn false (val l3) = z / 2 ^ k := by rw [Hzb.out, Hv3.out, ← Hzv.out]; simp [sgn]
        exact bodyPost_ret (v := .agg #[.int .i64 s4, .slice a4 n4 c4]) (by simp [results, Tryz.results65, go_sem, k0', k1']) rfl ⟨s4, a4, n4, c4, rfl, (I6.cast Hc).keep64 (Keep64.set2 (.i64 k0') (.slice k1') (notW_i64 _) _), HE6.out.put2 (by omega) _ _⟩
      case true =>
        go_wp2_with fail
        refine (Twos_any sm (some ⟨b, o, none⟩) n c z w6 (HI.out.ext HE6.out) (by omega) (bru_ext Hbr.out HE6.out)).mono ?_
        rintro e w7 ⟨t, rfl, ht1, ht0, ht2, hx7⟩
        have Ht1 := hid (ht1 Hz0.out)
        have o0' := cellKeep hx7 hlt6 o0; have o1' := cellKeep hx7 hlt6 o1
        have I7 := I6.ext hx7
        have hr7 := hr6.ext hx7
        have z7 := hx7.size
        have HE7 : Hid (Ext w w7) := HE6.out.trans hx7
        clear ht1 ht0 o0 o1 y0 y1
        by_cases htk : t < k
        · have itk : (t : Int) < (k : Int) := by omega
          have Hfin := Hval.out t Ht1.out
          rw [if_pos ⟨by simp, htk⟩] at Hfin
          have HFin := hid Hfin
          have Ho := hid (Of_from (w := w7) 1 (by omega) (by omega)); have Hsub := hid (Sub_from I7 K hK Hf4.out)
          have h7d : Ext w7 w7.drew := Below.drew (Ext.refl _)
          clear Hfin
          go_wp2_with fail
          go_region_held3 (fun w' => w'.cell? ⟨w4.heap.size, 0, none⟩ = some (.int .i64 s4) ∧ w'.cell? ⟨w4.heap.size, 1, none⟩ = some (.slice a4 n4 c4))
            (refine ⟨?_, ?_⟩ <;> (repeat (refine cellPut (by omega) ?_)) <;> exact cellKeep (W := w7) (by assumption) (by omega) (by assumption))
            (first | (go_at_call 35; refine (Ho.out _ (by assumption)).mono ?_; rintro e wa ⟨rfl, hea, hxa⟩) | (go_at_call 86; refine (Hsub.out _ 1 none 0 0 1 (by assumption) (IsInt.small _ _ (by omega) (by omega)) (Fit.one hK1)).mono ?_; rintro e wb ⟨s8, a8, n8, c8, rfl, hI8, heb, hxb⟩; have hr8 := hr7.ext heb; have k0' := hr8.c0; have k1' := hr8.c1; have g0' := hr8.f0; have g1' := hr8.f1))
          go_wp2_with fail
          exact bodyPost_ret (v := .agg #[.int .i64 s8, .slice a8 n8 c8]) (by simp [results, Tryz.results65, go_sem, k0', k1']) rfl ⟨s8, a8, n8, c8, rfl, (hI8.cast HFin.out.symm).keep64 (Keep64.set2 (.i64 k0') (.slice k1') (notW_i64 _) _), (HE7.out.trans heb).put2 (by omega) _ _⟩
        · have itk : ¬ (t : Int) < (k : Int) := by omega
          have Hfin := Hval.out t Ht1.out
          rw [if_neg (fun h => htk h.2)] at Hfin
          have k0' := hr7.c0; have k1' := hr7.c1; have g0' := hr7.f0; have g1' := hr7.f1
          have HFin := hid Hfin
          clear Hfin
          go_wp2_with fail
          exact bodyPost_ret (v := .agg #[.int .i64 s4, .slice a4 n4 c4]) (by simp [results, Tryz.results65, go_sem, k0', k1']) rfl ⟨s4, a4, n4, c4, rfl, (I7.cast HFin.out.symm).keep64 (Keep64.set2 (.i64 k0') (.slice k1') (notW_i64 _) _), HE7.out.put2 (by omega) _ _⟩
    · go_wp2_with fail
      have hO := outEarly he4 hI4 (by omega) hRg
      have HO := hid hO
      have Hval : Hid (∀ t, Tw z.natAbs t → z / 2 ^ k = if bb = true ∧ t < k then sgn bb (val l3) - 1 else sgn bb (val l3)) := by
        intro t ht
        rw [Hv3.out, ← Hzv.out, ← sgn_div bb z.natAbs k t ht, ← Hzb.out]
      have Hf4 : Hid (Fit K (sgn bb (val l3))) := by
        refine Hf.out.le ?_
        have e : (sgn bb (val l3)).natAbs = val l3 := by cases bb <;> simp [sgn]
        rw [e, Hv3.out, Hzv.out]
        exact Nat.div_le_self _ _
      refine (Hn.out _ hO.ext).mono ?_
      rintro e w6 ⟨rfl, he6, hx6⟩
      have o0 := cellKeep hx6 HO.out.lt HO.out.o0; have o1 := cellKeep hx6 HO.out.lt HO.out.o1
      have I6 := HO.out.int.ext hx6
      have ho6 := HO.out.ge
      have hlt6 := Nat.lt_of_lt_of_le HO.out.lt hx6.size
      have ho7 : W0.heap.size ≤ w6.heap.size := he6.size
      have y0 := cellKeep he6 hB c0; have y1 := cellKeep he6 hB c1
      have hr6 := hbx.res.ext he6
      have HE6 : Hid (Ext w w6) := hbx.ext.trans he6
      have hsz : w.heap.size + 1 < W0.heap.size := by have := hbx.size; omega
      clear hO
      cases bb
      case false =>
        have k0' := hr6.c0; have k1' := hr6.c1; have g0' := hr6.f0; have g1' := hr6.f1
        go_wp2_with fail
        have Hc : sgn false (val l3) = z / 2 ^ k := by rw [Hzb.out, Hv3.out, ← Hzv.out]; simp [sgn]
        exact bodyPost_ret (v := .agg #[.int .i64 s4, .slice a4 n4 c4]) (by simp [results, Tryz.results65, go_sem, k0', k1']) rfl ⟨s4, a4, n4, c4, rfl, (I6.cast Hc).keep64 (Keep64.set2 (.i64 k0') (.slice k1') (notW_i64 _) _), HE6.out.put2 (by omega) _ _⟩
      case true =>
        go_wp2_with fail
        refine (Twos_any sm (some ⟨b, o, none⟩) n c z w6 (HI.out.ext HE6.out) (by omega) (bru_ext Hbr.out HE6.out)).mono ?_
        rintro e w7 ⟨t, rfl, ht1, ht0, ht2, hx7⟩
        have Ht1 := hid (ht1 Hz0.out)
        have o0' := cellKeep hx7 hlt6 o0; have o1' := cellKeep hx7 hlt6 o1
        have I7 := I6.ext hx7
        have hr7 := hr6.ext hx7
        have z7 := hx7.size
        have HE7 : Hid (Ext w w7) := HE6.out.trans hx7
        clear ht1 ht0 o0 o1 y0 y1
        by_cases htk : t < k
        · have itk : (t : Int) < (k : Int) := by omega
          have Hfin := Hval.out t Ht1.out
          rw [if_pos ⟨by simp, htk⟩] at Hfin
          have HFin := hid Hfin
          have Ho := hid (Of_from (w := w7) 1 (by omega) (by omega)); have Hsub := hid (Sub_from I7 K hK Hf4.out)
          have h7d : Ext w7 w7.drew := Below.drew (Ext.refl _)
          clear Hfin
          go_wp2_with fail
          go_region_held3 (fun w' => w'.cell? ⟨w3.heap.size, 0, none⟩ = some (.int .i64 s4) ∧ w'.cell? ⟨w3.heap.size, 1, none⟩ = some (.slice a4 n4 c4))
            (refine ⟨?_, ?_⟩ <;> (repeat (refine cellPut (by omega) ?_)) <;> exact cellKeep (W := w7) (by assumption) (by omega) (by assumption))
            (first | (go_at_call 35; refine (Ho.out _ (by assumption)).mono ?_; rintro e wa ⟨rfl, hea, hxa⟩) | (go_at_call 86; refine (Hsub.out _ 1 none 0 0 1 (by assumption) (IsInt.small _ _ (by omega) (by omega)) (Fit.one hK1)).mono ?_; rintro e wb ⟨s8, a8, n8, c8, rfl, hI8, heb, hxb⟩; have hr8 := hr7.ext heb; have k0' := hr8.c0; have k1' := hr8.c1; have g0' := hr8.f0; have g1' := hr8.f1))
          go_wp2_with fail
          exact bodyPost_ret (v := .agg #[.int .i64 s8, .slice a8 n8 c8]) (by simp [results, Tryz.results65, go_sem, k0', k1']) rfl ⟨s8, a8, n8, c8, rfl, (hI8.cast HFin.out.symm).keep64 (Keep64.set2 (.i64 k0') (.slice k1') (notW_i64 _) _), (HE7.out.trans heb).put2 (by omega) _ _⟩
        · have itk : ¬ (t : Int) < (k : Int) := by omega
          have Hfin := Hval.out t Ht1.out
          rw [if_neg (fun h => htk h.2)] at Hfin
          have k0' := hr7.c0; have k1' := hr7.c1; have g0' := hr7.f0; have g1' := hr7.f1
          have HFin := hid Hfin
          clear Hfin
          go_wp2_with fail
          exact bodyPost_ret (v := .agg #[.int .i64 s4, .slice a4 n4 c4]) (by simp [results, Tryz.results65, go_sem, k0', k1']) rfl ⟨s4, a4, n4, c4, rfl, (I7.cast HFin.out.symm).keep64 (Keep64.set2 (.i64 k0') (.slice k1') (notW_i64 _) _), HE7.out.put2 (by omega) _ _⟩
    · go_wp2_with fail
      have hO := outEarly he4 hI4 (by omega) hRg
      have HO := hid hO
      have Hval : Hid (∀ t, Tw z.natAbs t → z / 2 ^ k = if bb = true ∧ t < k then sgn bb (val l3) - 1 else sgn bb (val l3)) := by
        intro t ht
        rw [Hv3.out, ← Hzv.out, ← sgn_div bb z.natAbs k t ht, ← Hzb.out]
      have Hf4 : Hid (Fit K (sgn bb (val l3))) := by
        refine Hf.out.le ?_
        have e : (sgn bb (val l3)).natAbs = val l3 := by cases bb <;> simp [sgn]
        rw [e, Hv3.out, Hzv.out]
        exact Nat.div_le_self _ _
      refine (Hn.out _ hO.ext).mono ?_
      rintro e w6 ⟨rfl, he6, hx6⟩
      have o0 := cellKeep hx6 HO.out.lt HO.out.o0; have o1 := cellKeep hx6 HO.out.lt HO.out.o1
      have I6 := HO.out.int.ext hx6
      have ho6 := HO.out.ge
      have hlt6 := Nat.lt_of_lt_of_le HO.out.lt hx6.size
      have ho7 : W0.heap.size ≤ w6.heap.size := he6.size
      have y0 := cellKeep he6 hB c0; have y1 := cellKeep he6 hB c1
      have hr6 := hbx.res.ext he6
      have HE6 : Hid (Ext w w6) := hbx.ext.trans he6
      have hsz : w.heap.size + 1 < W0.heap.size := by have := hbx.size; omega
      clear hO
      cases bb
      case false =>
        have k0' := hr6.c0; have k1' := hr6.c1; have g0' := hr6.f0; have g1' := hr6.f1
        go_wp2_with fail
        have Hc : sgn false (val l3) = z / 2 ^ k := by rw [Hzb.out, Hv3.out, ← Hzv.out]; simp [sgn]
        exact bodyPost_ret (v := .agg #[.int .i64 s4, .slice a4 n4 c4]) (by simp [results, Tryz.results65, go_sem, k0', k1']) rfl ⟨s4, a4, n4, c4, rfl, (I6.cast Hc).keep64 (Keep64.set2 (.i64 k0') (.slice k1') (notW_i64 _) _), HE6.out.put2 (by omega) _ _⟩
      case true =>
        go_wp2_with fail
        refine (Twos_any sm (some ⟨b, o, none⟩) n c z w6 (HI.out.ext HE6.out) (by omega) (bru_ext Hbr.out HE6.out)).mono ?_
        rintro e w7 ⟨t, rfl, ht1, ht0, ht2, hx7⟩
        have Ht1 := hid (ht1 Hz0.out)
        have o0' := cellKeep hx7 hlt6 o0; have o1' := cellKeep hx7 hlt6 o1
        have I7 := I6.ext hx7
        have hr7 := hr6.ext hx7
        have z7 := hx7.size
        have HE7 : Hid (Ext w w7) := HE6.out.trans hx7
        clear ht1 ht0 o0 o1 y0 y1
        by_cases htk : t < k
        · have itk : (t : Int) < (k : Int) := by omega
          have Hfin := Hval.out t Ht1.out
          rw [if_pos ⟨by simp, htk⟩] at Hfin
          have HFin := hid Hfin
          have Ho := hid (Of_from (w := w7) 1 (by omega) (by omega)); have Hsub := hid (Sub_from I7 K hK Hf4.out)
          have h7d : Ext w7 w7.drew := Below.drew (Ext.refl _)
          clear Hfin
          go_wp2_with fail
          go_region_held3 (fun w' => w'.cell? ⟨w1.heap.size, 0, none⟩ = some (.int .i64 s4) ∧ w'.cell? ⟨w1.heap.size, 1, none⟩ = some (.slice a4 n4 c4))
            (refine ⟨?_, ?_⟩ <;> (repeat (refine cellPut (by omega) ?_)) <;> exact cellKeep (W := w7) (by assumption) (by omega) (by assumption))
            (first | (go_at_call 35; refine (Ho.out _ (by assumption)).mono ?_; rintro e wa ⟨rfl, hea, hxa⟩) | (go_at_call 86; refine (Hsub.out _ 1 none 0 0 1 (by assumption) (IsInt.small _ _ (by omega) (by omega)) (Fit.one hK1)).mono ?_; rintro e wb ⟨s8, a8, n8, c8, rfl, hI8, heb, hxb⟩; have hr8 := hr7.ext heb; have k0' := hr8.c0; have k1' := hr8.c1; have g0' := hr8.f0; have g1' := hr8.f1))
          go_wp2_with fail
          exact bodyPost_ret (v := .agg #[.int .i64 s8, .slice a8 n8 c8]) (by simp [results, Tryz.results65, go_sem, k0', k1']) rfl ⟨s8, a8, n8, c8, rfl, (hI8.cast HFin.out.symm).keep64 (Keep64.set2 (.i64 k0') (.slice k1') (notW_i64 _) _), (HE7.out.trans heb).put2 (by omega) _ _⟩
        · have itk : ¬ (t : Int) < (k : Int) := by omega
          have Hfin := Hval.out t Ht1.out
          rw [if_neg (fun h => htk h.2)] at Hfin
          have k0' := hr7.c0; have k1' := hr7.c1; have g0' := hr7.f0; have g1' := hr7.f1
          have HFin := hid Hfin
          clear Hfin
          go_wp2_with fail
          exact bodyPost_ret (v := .agg #[.int .i64 s4, .slice a4 n4 c4]) (by simp [results, Tryz.results65, go_sem, k0', k1']) rfl ⟨s4, a4, n4, c4, rfl, (I7.cast HFin.out.symm).keep64 (Keep64.set2 (.i64 k0') (.slice k1') (notW_i64 _) _), HE7.out.put2 (by omega) _ _⟩
    · go_wp2_with fail
      have hO := outEarly he4 hI4 (by omega) hRg
      have HO := hid hO
      have Hval : Hid (∀ t, Tw z.natAbs t → z / 2 ^ k = if bb = true ∧ t < k then sgn bb (val l3) - 1 else sgn bb (val l3)) := by
        intro t ht
        rw [Hv3.out, ← Hzv.out, ← sgn_div bb z.natAbs k t ht, ← Hzb.out]
      have Hf4 : Hid (Fit K (sgn bb (val l3))) := by
        refine Hf.out.le ?_
        have e : (sgn bb (val l3)).natAbs = val l3 := by cases bb <;> simp [sgn]
        rw [e, Hv3.out, Hzv.out]
        exact Nat.div_le_self _ _
      refine (Hn.out _ hO.ext).mono ?_
      rintro e w6 ⟨rfl, he6, hx6⟩
      have o0 := cellKeep hx6 HO.out.lt HO.out.o0; have o1 := cellKeep hx6 HO.out.lt HO.out.o1
      have I6 := HO.out.int.ext hx6
      have ho6 := HO.out.ge
      have hlt6 := Nat.lt_of_lt_of_le HO.out.lt hx6.size
      have ho7 : W0.heap.size ≤ w6.heap.size := he6.size
      have y0 := cellKeep he6 hB c0; have y1 := cellKeep he6 hB c1
      have hr6 := hbx.res.ext he6
      have HE6 : Hid (Ext w w6) := hbx.ext.trans he6
      have hsz : w.heap.size + 1 < W0.heap.size := by have := hbx.size; omega
      clear hO
      cases bb
      case false =>
        have k0' := hr6.c0; have k1' := hr6.c1; have g0' := hr6.f0; have g1' := hr6.f1
        go_wp2_with fail
        have Hc : sgn false (val l3) = z / 2 ^ k := by rw [Hzb.out, Hv3.out, ← Hzv.out]; simp [sgn]
        exact bodyPost_ret (v := .agg #[.int .i64 s4, .slice a4 n4 c4]) (by simp [results, Tryz.results65, go_sem, k0', k1']) rfl ⟨s4, a4, n4, c4, rfl, (I6.cast Hc).keep64 (Keep64.set2 (.i64 k0') (.slice k1') (notW_i64 _) _), HE6.out.put2 (by omega) _ _⟩
      case true =>
        go_wp2_with fail
        refine (Twos_any sm (some ⟨b, o, none⟩) n c z w6 (HI.out.ext HE6.out) (by omega) (bru_ext Hbr.out HE6.out)).mono ?_
        rintro e w7 ⟨t, rfl, ht1, ht0, ht2, hx7⟩
        have Ht1 := hid (ht1 Hz0.out)
        have o0' := cellKeep hx7 hlt6 o0; have o1' := cellKeep hx7 hlt6 o1
        have I7 := I6.ext hx7
        have hr7 := hr6.ext hx7
        have z7 := hx7.size
        have HE7 : Hid (Ext w w7) := HE6.out.trans hx7
        clear ht1 ht0 o0 o1 y0 y1
        by_cases htk : t < k
        · have itk : (t : Int) < (k : Int) := by omega
          have Hfin := Hval.out t Ht1.out
          rw [if_pos ⟨by simp, htk⟩] at Hfin
          have HFin := hid Hfin
          have Ho := hid (Of_from (w := w7) 1 (by omega) (by omega)); have Hsub := hid (Sub_from I7 K hK Hf4.out)
          have h7d : Ext w7 w7.drew := Below.drew (Ext.refl _)
          clear Hfin
          go_wp2_with fail
          go_region_held3 (fun w' => w'.cell? ⟨W0.heap.size, 0, none⟩ = some (.int .i64 s4) ∧ w'.cell? ⟨W0.heap.size, 1, none⟩ = some (.slice a4 n4 c4))
            (refine ⟨?_, ?_⟩ <;> (repeat (refine cellPut (by omega) ?_)) <;> exact cellKeep (W := w7) (by assumption) (by omega) (by assumption))
            (first | (go_at_call 35; refine (Ho.out _ (by assumption)).mono ?_; rintro e wa ⟨rfl, hea, hxa⟩) | (go_at_call 86; refine (Hsub.out _ 1 none 0 0 1 (by assumption) (IsInt.small _ _ (by omega) (by omega)) (Fit.one hK1)).mono ?_; rintro e wb ⟨s8, a8, n8, c8, rfl, hI8, heb, hxb⟩; have hr8 := hr7.ext heb; have k0' := hr8.c0; have k1' := hr8.c1; have g0' := hr8.f0; have g1' := hr8.f1))
          go_wp2_with fail
          exact bodyPost_ret (v := .agg #[.int .i64 s8, .slice a8 n8 c8]) (by simp [results, Tryz.results65, go_sem, k0', k1']) rfl ⟨s8, a8, n8, c8, rfl, (hI8.cast HFin.out.symm).keep64 (Keep64.set2 (.i64 k0') (.slice k1') (notW_i64 _) _), (HE7.out.trans heb).put2 (by omega) _ _⟩
        · have itk : ¬ (t : Int) < (k : Int) := by omega
          have Hfin := Hval.out t Ht1.out
          rw [if_neg (fun h => htk h.2)] at Hfin
          have k0' := hr7.c0; have k1' := hr7.c1; have g0' := hr7.f0; have g1' := hr7.f1
          have HFin := hid Hfin
          clear Hfin
          go_wp2_with fail
          exact bodyPost_ret (v := .agg #[.int .i64 s4, .slice a4 n4 c4]) (by simp [results, Tryz.results65, go_sem, k0', k1']) rfl ⟨s4, a4, n4, c4, rfl, (I7.cast HFin.out.symm).keep64 (Keep64.set2 (.i64 k0') (.slice k1') (notW_i64 _) _), HE7.out.put2 (by omega) _ _⟩

end Go.Proofs.YtdiojbgbeeojkaaGreatDoor
