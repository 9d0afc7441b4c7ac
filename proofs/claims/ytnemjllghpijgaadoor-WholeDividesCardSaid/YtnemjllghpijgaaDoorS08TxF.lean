/-
  halve: over a power of two, rounded down. Gcd. Gcd, where neither is 0. A slice of bytes that grows: its block is its own and holds bytes alone; appending to it turns no word. strconv.FormatUint to the base ten.
-/
import Derived.Test.YtnemjllghpijgaaDoorProg
import Derived.Test.YtnemjllghpijgaaDoorRows
import Derived.BigQuiet
import Derived.Deep.Cut
import Derived.Deep.QuietTactic
import Derived.Deep.RegionHeld3
import Derived.Laws.Bits64b
import Derived.Laws.CopyOwn
import Derived.Laws.ResultCell
import Derived.Lib.AppendIntMem
import Derived.Lib.AppendStr
import Derived.Lib.BitFns
import Derived.Lib.ItoaMem
import Derived.Lib.ItoaNum
import Derived.Lib.Strings
import Derived.Lib.TrailingZeros
import Derived.OwnWalk
import Derived.Shelf.Bits.Mul64
import Derived.Shelf.LaysM
import Derived.Shelf.Small.Bits
import Derived.Shelf.Small.Wraps
import Derived.Shelf.Spec.BitsCarry
import Derived.Shelf.Spec.TrailingZeros
import Derived.Shelf.Strconv.Itoa0
import Derived.Shelf.Strconv.Itoa1
import Derived.Shelf.Strconv.Itoa2
import Derived.Shelf.Strconv.Itoa3
import Derived.WalkKit
import Derived.WalkLawsBesides
import Derived.WalkSpells
import Derived.Test.YtnemjllghpijgaaDoorS00Mem
import Derived.Test.YtnemjllghpijgaaDoorShelf
import Derived.Test.YtnemjllghpijgaaDoorS02ShiftI
import Derived.Test.YtnemjllghpijgaaDoorS03GuessD
import Derived.Test.YtnemjllghpijgaaDoorS04IntB
import Derived.Test.YtnemjllghpijgaaDoorS05IntD
import Derived.Test.YtnemjllghpijgaaDoorS06ParE
import Derived.Test.YtnemjllghpijgaaDoorS07GcB
namespace Go.Proofs.YtnemjllghpijgaaDoor
open Go.RowKit

/-- A number that a call has put into a variable of its own. -/
structure OutAt (W0 W : World) (g : Nat) (s : Int) (a : Option Addr) (n c : Nat) (z : Int) : Prop where
  ext : Ext W0 W
  lt : g < W.heap.size
  ge : W0.heap.size ≤ g
  o0 : W.cell? ⟨g, 0, none⟩ = some (.int .i64 s)
  o1 : W.cell? ⟨g, 1, none⟩ = some (.slice a n c)
  int : IsInt W s a n c z

theorem outLate {W0 w4 : World} {s : Int} {a : Option Addr} {n c : Nat} {z : Int} (he : Ext W0 w4) (hI : IsInt w4 s a n c z) : OutAt W0 (w4.alloc (.cells #[.int .i64 s, .slice a n c] 24)) w4.heap.size s a n c z :=
  ⟨he.then _, by simp, he.size, by simp, by simp, hI.ext (Ext.alloc _ _)⟩
theorem outEarly {W0 w4 : World} {g : Nat} {s : Int} {a : Option Addr} {n c : Nat} {z : Int} (he : Ext W0 w4) (hI : IsInt w4 s a n c z) (hg : W0.heap.size ≤ g) (hR : Res w4 g) : OutAt W0 ((w4.setCell ⟨g, 0, none⟩ (.int .i64 s)).setCell ⟨g, 1, none⟩ (.slice a n c)) g s a n c z := by
  have k0 := hR.c0; have k1 := hR.c1
  refine ⟨he.put2 hg _ _, by simp [World.setCell]; exact hR.lt, hg, ?_, ?_, hI.keep64 (Keep64.set2 (.i64 k0) (.slice k1) (notW_i64 _) _)⟩
  · rw [World.cell?_setCell_other _ _ _ _ (by simp), World.cell?_setCell_same _ _ _ k0]
  · refine World.cell?_setCell_same _ _ _ (u := .slice none 0 0) ?_
    rw [World.cell?_setCell_other _ _ _ _ (by simp)]; exact k1
theorem res_new (w : World) : Res (w.alloc (.cells #[.int .i64 0, .slice none 0 0] 24)) w.heap.size := ⟨by simp, heap_alloc_new w _⟩

theorem res_newd (w : World) : Res (w.alloc (.cells #[.int .i64 0, .slice none 0 0] 24)).drew w.heap.size := (res_new w).ext (Below.drew (Ext.refl _))

theorem sgn_div (b : Bool) (v k : Nat) (t : Nat) (h : Tw v t) : sgn b v / 2 ^ k = if b = true ∧ t < k then sgn b (v / 2 ^ k) - 1 else sgn b (v / 2 ^ k) := by
  have hp : 0 < 2 ^ k := Nat.pow_pos (by decide)
  have hd := h.dvd k
  cases b
  · simp [sgn]
  · have := neg_div v (2 ^ k) hp
    simp only [sgn, if_true]
    have e : ((2 ^ k : Nat) : Int) = 2 ^ k := by simp
    rw [e] at this
    rw [this]
    by_cases hk : t < k
    · rw [if_neg (fun h0 => by have := hd.1 h0; omega), if_pos ⟨trivial, hk⟩]
    · rw [if_pos (hd.2 (by omega)), if_neg (fun h0 => hk h0.2)]

set_option maxHeartbeats 1600000 in
set_option maxRecDepth 100000 in
theorem halve_any (sm : Int) (ao : Option Addr) (n c : Nat) (z : Int) (k : Nat) (w : World) (h : IsInt w sm ao n c z) (hk : k ≤ 1073741824) (K : Nat) (hK : K ≤ 4194304) (hK1 : 1 ≤ K) (hf : Fit K z) (hbr : Bru w) :
    Calls Tryd.prog 39 #[.agg #[.int .i64 sm, .slice ao n c], .int .u64 k] w fun e w' => ∃ (s' : Int) (a' : Option Addr) (n' c' : Nat), e = .returned (.agg #[.int .i64 s', .slice a' n' c']) ∧ IsInt w' s' a' n' c' (z / 2 ^ k) ∧ Ext w w' := by
  have q1 := eql_nil ao n c 0 0
  have hzb := h.bool
  have hnK := h.len hf
  rcases h with ⟨rfl, rfl, rfl, rfl, r1, r2⟩ | ⟨b, o, l, rfl, hl, hnc, hcm, hs, hd, hr, hz⟩
  · obtain ⟨q, hq⟩ : ∃ q, sm / 2 ^ min k 64 = q := ⟨_, rfl⟩
    have hqr : -9223372036854775808 ≤ q ∧ q ≤ 9223372036854775807 := by
      have hp : (0 : Int) < 2 ^ min k 64 := Int.pow_pos (by decide)
      rw [← hq]
      constructor
      · by_cases hneg : sm < 0
        · have h3 : sm ≤ sm / 2 ^ min k 64 := by
            generalize (2 : Int) ^ min k 64 = p at *
            exact (Int.le_ediv_iff_mul_le hp).2 (by have : sm * p ≤ sm * 1 := Int.mul_le_mul_of_nonpos_left (by omega) (by omega); omega)
          omega
        · have := Int.ediv_nonneg (a := sm) (b := 2 ^ min k 64) (by omega) (by omega); omega
      · have h4 : sm / 2 ^ min k 64 ≤ (if sm < 0 then 0 else sm) := by
          split
          · exact Int.le_of_lt (Int.ediv_neg_of_neg_of_pos (by assumption) hp)
          · exact Int.ediv_le_self _ (by omega)
        split at h4 <;> omega
    have hfin := shr_small sm k r1 r2
    rw [hq] at hfin
    rw [← hfin]
    have hno : (none : Option Addr).isNone = true := rfl
    clear hf hzb hfin hbr r1 r2
    go_enter Tryd.func39, Tryd.ntmps39
    go_wp2
    exact bodyPost_ret (v := .agg #[.int .i64 q, .slice none 0 0]) (by simp [results, Tryd.results39, go_sem]) rfl ⟨q, none, 0, 0, rfl, IsInt.small _ _ hqr.1 hqr.2, (Ext.alloc _ _).then _⟩
  · have hno : (some (⟨b, o, none⟩ : Addr)).isNone = false := rfl
    have HI : Hid (IsInt w sm (some ⟨b, o, none⟩) n c z) := Or.inr ⟨b, o, l, rfl, hl, hnc, hcm, hs, hd, hr, hz⟩
    have Hzv : Hid (z.natAbs = val l) := by show _ = _; rcases hz with ⟨_, h, _⟩ | ⟨_, h, _⟩ <;> omega
    have Hz0 : Hid (z ≠ 0) := by show _ ≠ _; rcases hz with ⟨_, h, _⟩ | ⟨_, h, _⟩ <;> omega
    obtain ⟨bb, hbb⟩ : ∃ bb, decide (sm < 0) = bb := ⟨_, rfl⟩
    rw [hbb] at hzb
    have Hzb := hid hzb; have Hbb := hid hbb; have Hl := hid hl; have Hs := hid hs; have Hd := hid hd; have Hf := hid hf; have Hbr := hid hbr
    clear hz hl hs hd hr hzb hbb hf hbr
    go_enter Tryd.func39, Tryd.ntmps39
    go_wp2_with fail
    have hbx := boxes1 w (.int .i64 sm) (.slice (some ⟨b, o, none⟩) n c)
    generalize (w.alloc (.cells #[.int .i64 sm, .slice (some ⟨b, o, none⟩) n c] 24)).alloc (.cells #[.int .i64 0, .slice none 0 0] 24) = W0 at *
    have hB : w.heap.size < W0.heap.size := by have := hbx.size; omega
    have hnn := negative_from (w := W0) sm (.slice (some ⟨b, o, none⟩) n c)
    rw [Hbb.out] at hnn
    have Hn := hid hnn; have Hsd := hid (shiftDown_from (w := W0) k hk); have Hfw := hid (fromWords_from (w := W0) bb)
    have Hs0 := hid (Hs.out.ext hbx.ext)
    have hE0d : Ext W0 W0.drew := Below.drew (Ext.refl _)
    have c0 := hbx.c0; have c1 := hbx.c1
    clear hnn
    have z0 := hE0d.size
    have hE00 : Ext W0 W0 := Ext.refl _
    go_region_held3 (fun w' => w'.cell? ⟨w.heap.size, 0, none⟩ = some (.int .i64 sm) ∧ w'.cell? ⟨w.heap.size, 1, none⟩ = some (.slice (some ⟨b, o, none⟩) n c))
      (refine ⟨?_, ?_⟩ <;> (repeat (refine cellPut (by omega) ?_)) <;> (first | exact cellKeep (W := W0) (by assumption) (by omega) (by assumption) | exact cellKeep (W := W0) (Ext.then (by assumption) _) (by omega) (by assumption)))
      (first | (go_at_call 24; (first | (refine (Hn.out _ (by assumption)).mono ?_; rintro e w1 ⟨rfl, he1, hx1⟩; have z1 := he1.size) | (refine (Hn.out _ (Ext.then (by assumption) _)).mono ?_; rintro e w1 ⟨rfl, he1, hx1⟩; have z1 := he1.size; have hRg := (res_new _).ext hx1) | (refine (Hn.out _ (Below.drew (Ext.then (by assumption) _))).mono ?_; rintro e w1 ⟨rfl, he1, hx1⟩; have z1 := he1.size; have hRg := (res_newd _).ext hx1))) | (go_at_call 61; (first | (refine (Hsd.out _ (some ⟨b, o, none⟩) l n c (by assumption) Hl.out (Hs0.out.ext (by assumption)) Hd.out hnc hcm (by omega)).mono ?_; rintro e w3 ⟨a3, l3, n3, c3, rfl, hl3, hn3, hc3, hs3, hd3, hm3, Hv3, he3, hx3⟩; have Hl3 := hid hl3; clear hl3; have z3 := he3.size; try have hRg := hRg.ext hx3) | (refine (Hsd.out _ (some ⟨b, o, none⟩) l n c (Ext.then (by assumption) _) Hl.out (Hs0.out.ext (Ext.then (by assumption) _)) Hd.out hnc hcm (by omega)).mono ?_; rintro e w3 ⟨a3, l3, n3, c3, rfl, hl3, hn3, hc3, hs3, hd3, hm3, Hv3, he3, hx3⟩; have Hl3 := hid hl3; clear hl3; have z3 := he3.size; have hRg := (res_new _).ext hx3))) | (go_at_call 46; (first | (refine (Hfw.out _ a3 l3 n3 c3 (by assumption) Hl3.out hs3 hd3 hn3 hc3).mono ?_; rintro e w4 ⟨s4, a4, n4, c4, rfl, hI4, he4, hx4⟩; have z4 := he4.size; try (have hRg := hRg.ext hx4; have k0 := hRg.c0; have k1 := hRg.c1; have g0 := hRg.f0; have g1 := hRg.f1)) | (refine (Hfw.out _ a3 l3 n3 c3 (Ext.then (by assumption) _) Hl3.out (hs3.ext (Ext.alloc _ _)) hd3 hn3 hc3).mono ?_; rintro e w4 ⟨s4, a4, n4, c4, rfl, hI4, he4, hx4⟩; have z4 := he4.size; have hRg := (res_new _).ext hx4; have k0 := hRg.c0; have k1 := hRg.c1; have g0 := hRg.f0; have g1 := hRg.f1))))
    · go_wp2_with fail
      have hO := outLate he4 hI4
      have HO := hid hO
      have Hval : Hid (∀ t, Tw z.natAbs t → z / 2 ^ k = if bb = true ∧ t < k then sgn bb (val l3) - 1 else sgn bb (val l3)) := by
        intro t ht
        rw [Hv3.out, ← Hzv.out, ← sgn_div bb z.natAbs k t ht, ← Hzb.out]
      have Hf4 : Hid (Fit K (sgn bb (val l3))) := by
        refine Hf.out.le ?_
        have e : (sgn bb (val l3)).natAbs = val l3 := by cases bb <;> simp [sgn]
        rw [e, Hv3.out, Hzv.out]
        exact Nat.div_le_self _ _
      refine (Hn.out _ hO.ext).mono ?_
      rintro e w6 ⟨rfl, he6, hx6⟩
      have o0 := cellKeep hx6 HO.out.lt HO.out.o0; have o1 := cellKeep hx6 HO.out.lt HO.out.o1
      have I6 := HO.out.int.ext hx6
      have ho6 := HO.out.ge
      have hlt6 := Nat.lt_of_lt_of_le HO.out.lt hx6.size
      have ho7 : W0.heap.size ≤ w6.heap.size := he6.size
      have y0 := cellKeep he6 hB c0; have y1 := cellKeep he6 hB c1
      have hr6 := hbx.res.ext he6
      have HE6 : Hid (Ext w w6) := hbx.ext.trans he6
      have hsz : w.heap.size + 1 < W0.heap.size := by have := hbx.size; omega
      clear hO
      cases bb
      case false =>
        have k0' := hr6.c0; have k1' := hr6.c1; have g0' := hr6.f0; have g1' := hr6.f1
        go_wp2_with fail
        have Hc : sgn false (val l3) = z / 2 ^ k := by rw [Hzb.out, Hv3.out, ← Hzv.out]; simp [sgn]
        exact bodyPost_ret (v := .agg #[.int .i64 s4, .slice a4 n4 c4]) (by simp [results, Tryd.results39, go_sem, k0', k1']) rfl ⟨s4, a4, n4, c4, rfl, (I6.cast Hc).keep64 (Keep64.set2 (.i64 k0') (.slice k1') (notW_i64 _) _), HE6.out.put2 (by omega) _ _⟩
      case true =>
        go_wp2_with fail
        refine (Twos_any sm (some ⟨b, o, none⟩) n c z w6 (HI.out.ext HE6.out) (by omega) (bru_ext Hbr.out HE6.out)).mono ?_
        rintro e w7 ⟨t, rfl, ht1, ht0, ht2, hx7⟩
        have Ht1 := hid (ht1 Hz0.out)
        have o0' := cellKeep hx7 hlt6 o0; have o1' := cellKeep hx7 hlt6 o1
        have I7 := I6.ext hx7
        have hr7 := hr6.ext hx7
        have z7 := hx7.size
        have HE7 : Hid (Ext w w7) := HE6.out.trans hx7
        clear ht1 ht0 o0 o1 y0 y1
        by_cases htk : t < k
        · have itk : (t : Int) < (k : Int) := by omega
          have Hfin := Hval.out t Ht1.out
          rw [if_pos ⟨by simp, htk⟩] at Hfin
          have HFin := hid Hfin
          have Ho := hid (Of_from (w := w7) 1 (by omega) (by omega)); have Hsub := hid (Sub_from I7 K hK Hf4.out)
          have h7d : Ext w7 w7.drew := Below.drew (Ext.refl _)
          clear Hfin
          go_wp2_with fail
          go_region_held3 (fun w' => w'.cell? ⟨w4.heap.size, 0, none⟩ = some (.int .i64 s4) ∧ w'.cell? ⟨w4.heap.size, 1, none⟩ = some (.slice a4 n4 c4))
            (refine ⟨?_, ?_⟩ <;> (repeat (refine cellPut (by omega) ?_)) <;> exact cellKeep (W := w7) (by assumption) (by omega) (by assumption))
            (first | (go_at_call 21; refine (Ho.out _ (by assumption)).mono ?_; rintro e wa ⟨rfl, hea, hxa⟩) | (go_at_call 26; refine (Hsub.out _ 1 none 0 0 1 (by assumption) (IsInt.small _ _ (by omega) (by omega)) (Fit.one hK1)).mono ?_; rintro e wb ⟨s8, a8, n8, c8, rfl, hI8, heb, hxb⟩; have hr8 := hr7.ext heb; have k0' := hr8.c0; have k1' := hr8.c1; have g0' := hr8.f0; have g1' := hr8.f1))
          go_wp2_with fail
          exact bodyPost_ret (v := .agg #[.int .i64 s8, .slice a8 n8 c8]) (by simp [results, Tryd.results39, go_sem, k0', k1']) rfl ⟨s8, a8, n8, c8, rfl, (hI8.cast HFin.out.symm).keep64 (Keep64.set2 (.i64 k0') (.slice k1') (notW_i64 _) _), (HE7.out.trans heb).put2 (by omega) _ _⟩
        · have itk : ¬ (t : Int) < (k : Int) := by omega
          have Hfin := Hval.out t Ht1.out
          rw [if_neg (fun h => htk h.2)] at Hfin
          have k0' := hr7.c0; have k1' := hr7.c1; have g0' := hr7.f0; have g1' := hr7.f1
          have HFin := hid Hfin
          clear Hfin
          go_wp2_with fail
          exact bodyPost_ret (v := .agg #[.int .i64 s4, .slice a4 n4 c4]) (by simp [results, Tryd.results39, go_sem, k0', k1']) rfl ⟨s4, a4, n4, c4, rfl, (I7.cast HFin.out.symm).keep64 (Keep64.set2 (.i64 k0') (.slice k1') (notW_i64 _) _), HE7.out.put2 (by omega) _ _⟩
    · go_wp2_with fail
      have hO := outEarly he4 hI4 (by omega) hRg
      have HO := hid hO
      have Hval : Hid (∀ t, Tw z.natAbs t → z / 2 ^ k = if bb = true ∧ t < k then sgn bb (val l3) - 1 else sgn bb (val l3)) := by
        intro t ht
        rw [Hv3.out, ← Hzv.out, ← sgn_div bb z.natAbs k t ht, ← Hzb.out]
      have Hf4 : Hid (Fit K (sgn bb (val l3))) := by
        refine Hf.out.le ?_
        have e : (sgn bb (val l3)).natAbs = val l3 := by cases bb <;> simp [sgn]
        rw [e, Hv3.out, Hzv.out]
        exact Nat.div_le_self _ _
      refine (Hn.out _ hO.ext).mono ?_
      rintro e w6 ⟨rfl, he6, hx6⟩
      have o0 := cellKeep hx6 HO.out.lt HO.out.o0; have o1 := cellKeep hx6 HO.out.lt HO.out.o1
      have I6 := HO.out.int.ext hx6
      have ho6 := HO.out.ge
      have hlt6 := Nat.lt_of_lt_of_le HO.out.lt hx6.size
      have ho7 : W0.heap.size ≤ w6.heap.size := he6.size
      have y0 := cellKeep he6 hB c0; have y1 := cellKeep he6 hB c1
      have hr6 := hbx.res.ext he6
      have HE6 : Hid (Ext w w6) := hbx.ext.trans he6
      have hsz : w.heap.size + 1 < W0.heap.size := by have := hbx.size; omega
      clear hO
      cases bb
      case false =>
        have k0' := hr6.c0; have k1' := hr6.c1; have g0' := hr6.f0; have g1' := hr6.f1
        go_wp2_with fail
        have Hc : sgn false (val l3) = z / 2 ^ k := by rw [Hzb.out, Hv3.out, ← Hzv.out]; simp [sgn]
        exact bodyPost_ret (v := .agg #[.int .i64 s4, .slice a4 n4 c4]) (by simp [results, Tryd.results39, go_sem, k0', k1']) rfl ⟨s4, a4, n4, c4, rfl, (I6.cast Hc).keep64 (Keep64.set2 (.i64 k0') (.slice k1') (notW_i64 _) _), HE6.out.put2 (by omega) _ _⟩
      case true =>
        go_wp2_with fail
        refine (Twos_any sm (some ⟨b, o, none⟩) n c z w6 (HI.out.ext HE6.out) (by omega) (bru_ext Hbr.out HE6.out)).mono ?_
        rintro e w7 ⟨t, rfl, ht1, ht0, ht2, hx7⟩
        have Ht1 := hid (ht1 Hz0.out)
        have o0' := cellKeep hx7 hlt6 o0; have o1' := cellKeep hx7 hlt6 o1
        have I7 := I6.ext hx7
        have hr7 := hr6.ext hx7
        have z7 := hx7.size
        have HE7 : Hid (Ext w w7) := HE6.out.trans hx7
        clear ht1 ht0 o0 o1 y0 y1
        by_cases htk : t < k
        · have itk : (t : Int) < (k : Int) := by omega
          have Hfin := Hval.out t Ht1.out
          rw [if_pos ⟨by simp, htk⟩] at Hfin
          have HFin := hid Hfin
          have Ho := hid (Of_from (w := w7) 1 (by omega) (by omega)); have Hsub := hid (Sub_from I7 K hK Hf4.out)
          have h7d : Ext w7 w7.drew := Below.drew (Ext.refl _)
          clear Hfin
          go_wp2_with fail
          go_region_held3 (fun w' => w'.cell? ⟨w3.heap.size, 0, none⟩ = some (.int .i64 s4) ∧ w'.cell? ⟨w3.heap.size, 1, none⟩ = some (.slice a4 n4 c4))
            (refine ⟨?_, ?_⟩ <;> (repeat (refine cellPut (by omega) ?_)) <;> exact cellKeep (W := w7) (by assumption) (by omega) (by assumption))
            (first | (go_at_call 21; refine (Ho.out _ (by assumption)).mono ?_; rintro e wa ⟨rfl, hea, hxa⟩) | (go_at_call 26; refine (Hsub.out _ 1 none 0 0 1 (by assumption) (IsInt.small _ _ (by omega) (by omega)) (Fit.one hK1)).mono ?_; rintro e wb ⟨s8, a8, n8, c8, rfl, hI8, heb, hxb⟩; have hr8 := hr7.ext heb; have k0' := hr8.c0; have k1' := hr8.c1; have g0' := hr8.f0; have g1' := hr8.f1))
          go_wp2_with fail
          exact bodyPost_ret (v := .agg #[.int .i64 s8, .slice a8 n8 c8]) (by simp [results, Tryd.results39, go_sem, k0', k1']) rfl ⟨s8, a8, n8, c8, rfl, (hI8.cast HFin.out.symm).keep64 (Keep64.set2 (.i64 k0') (.slice k1') (notW_i64 _) _), (HE7.out.trans heb).put2 (by omega) _ _⟩
        · have itk : ¬ (t : Int) < (k : Int) := by omega
          have Hfin := Hval.out t Ht1.out
          rw [if_neg (fun h => htk h.2)] at Hfin
          have k0' := hr7.c0; have k1' := hr7.c1; have g0' := hr7.f0; have g1' := hr7.f1
          have HFin := hid Hfin
          clear Hfin
          go_wp2_with fail
          exact bodyPost_ret (v := .agg #[.int .i64 s4, .slice a4 n4 c4]) (by simp [results, Tryd.results39, go_sem, k0', k1']) rfl ⟨s4, a4, n4, c4, rfl, (I7.cast HFin.out.symm).keep64 (Keep64.set2 (.i64 k0') (.slice k1') (notW_i64 _) _), HE7.out.put2 (by omega) _ _⟩
    · go_wp2_with fail
      have hO := outEarly he4 hI4 (by omega) hRg
      have HO := hid hO
      have Hval : Hid (∀ t, Tw z.natAbs t → z / 2 ^ k = if bb = true ∧ t < k then sgn bb (val l3) - 1 else sgn bb (val l3)) := by
        intro t ht
        rw [Hv3.out, ← Hzv.out, ← sgn_div bb z.natAbs k t ht, ← Hzb.out]
      have Hf4 : Hid (Fit K (sgn bb (val l3))) := by
        refine Hf.out.le ?_
        have e : (sgn bb (val l3)).natAbs = val l3 := by cases bb <;> simp [sgn]
        rw [e, Hv3.out, Hzv.out]
        exact Nat.div_le_self _ _
      refine (Hn.out _ hO.ext).mono ?_
      rintro e w6 ⟨rfl, he6, hx6⟩
      have o0 := cellKeep hx6 HO.out.lt HO.out.o0; have o1 := cellKeep hx6 HO.out.lt HO.out.o1
      have I6 := HO.out.int.ext hx6
      have ho6 := HO.out.ge
      have hlt6 := Nat.lt_of_lt_of_le HO.out.lt hx6.size
      have ho7 : W0.heap.size ≤ w6.heap.size := he6.size
      have y0 := cellKeep he6 hB c0; have y1 := cellKeep he6 hB c1
      have hr6 := hbx.res.ext he6
      have HE6 : Hid (Ext w w6) := hbx.ext.trans he6
      have hsz : w.heap.size + 1 < W0.heap.size := by have := hbx.size; omega
      clear hO
      cases bb
      case false =>
        have k0' := hr6.c0; have k1' := hr6.c1; have g0' := hr6.f0; have g1' := hr6.f1
        go_wp2_with fail
        have Hc : sgn false (val l3) = z / 2 ^ k := by rw [Hzb.out, Hv3.out, ← Hzv.out]; simp [sgn]
        exact bodyPost_ret (v := .agg #[.int .i64 s4, .slice a4 n4 c4]) (by simp [results, Tryd.results39, go_sem, k0', k1']) rfl ⟨s4, a4, n4, c4, rfl, (I6.cast Hc).keep64 (Keep64.set2 (.i64 k0') (.slice k1') (notW_i64 _) _), HE6.out.put2 (by omega) _ _⟩
      case true =>
        go_wp2_with fail
        refine (Twos_any sm (some ⟨b, o, none⟩) n c z w6 (HI.out.ext HE6.out) (by omega) (bru_ext Hbr.out HE6.out)).mono ?_
        rintro e w7 ⟨t, rfl, ht1, ht0, ht2, hx7⟩
        have Ht1 := hid (ht1 Hz0.out)
        have o0' := cellKeep hx7 hlt6 o0; have o1' := cellKeep hx7 hlt6 o1
        have I7 := I6.ext hx7
        have hr7 := hr6.ext hx7
        have z7 := hx7.size
        have HE7 : Hid (Ext w w7) := HE6.out.trans hx7
        clear ht1 ht0 o0 o1 y0 y1
        by_cases htk : t < k
        · have itk : (t : Int) < (k : Int) := by omega
          have Hfin := Hval.out t Ht1.out
          rw [if_pos ⟨by simp, htk⟩] at Hfin
          have HFin := hid Hfin
          have Ho := hid (Of_from (w := w7) 1 (by omega) (by omega)); have Hsub := hid (Sub_from I7 K hK Hf4.out)
          have h7d : Ext w7 w7.drew := Below.drew (Ext.refl _)
          clear Hfin
          go_wp2_with fail
          go_region_held3 (fun w' => w'.cell? ⟨w1.heap.size, 0, none⟩ = some (.int .i64 s4) ∧ w'.cell? ⟨w1.heap.size, 1, none⟩ = some (.slice a4 n4 c4))
            (refine ⟨?_, ?_⟩ <;> (repeat (refine cellPut (by omega) ?_)) <;> exact cellKeep (W := w7) (by assumption) (by omega) (by assumption))
            (first | (go_at_call 21; refine (Ho.out _ (by assumption)).mono ?_; rintro e wa ⟨rfl, hea, hxa⟩) | (go_at_call 26; refine (Hsub.out _ 1 none 0 0 1 (by assumption) (IsInt.small _ _ (by omega) (by omega)) (Fit.one hK1)).mono ?_; rintro e wb ⟨s8, a8, n8, c8, rfl, hI8, heb, hxb⟩; have hr8 := hr7.ext heb; have k0' := hr8.c0; have k1' := hr8.c1; have g0' := hr8.f0; have g1' := hr8.f1))
          go_wp2_with fail
          exact bodyPost_ret (v := .agg #[.int .i64 s8, .slice a8 n8 c8]) (by simp [results, Tryd.results39, go_sem, k0', k1']) rfl ⟨s8, a8, n8, c8, rfl, (hI8.cast HFin.out.symm).keep64 (Keep64.set2 (.i64 k0') (.slice k1') (notW_i64 _) _), (HE7.out.trans heb).put2 (by omega) _ _⟩
        · have itk : ¬ (t : Int) < (k : Int) := by omega
          have Hfin := Hval.out t Ht1.out
          rw [if_neg (fun h => htk h.2)] at Hfin
          have k0' := hr7.c0; have k1' := hr7.c1; have g0' := hr7.f0; have g1' := hr7.f1
          have HFin := hid Hfin
          clear Hfin
          go_wp2_with fail
          exact bodyPost_ret (v := .agg #[.int .i64 s4, .slice a4 n4 c4]) (by simp [results, Tryd.results39, go_sem, k0', k1']) rfl ⟨s4, a4, n4, c4, rfl, (I7.cast HFin.out.symm).keep64 (Keep64.set2 (.i64 k0') (.slice k1') (notW_i64 _) _), HE7.out.put2 (by omega) _ _⟩
    · go_wp2_with fail
      have hO := outEarly he4 hI4 (by omega) hRg
      have HO := hid hO
      have Hval : Hid (∀ t, Tw z.natAbs t → z / 2 ^ k = if bb = true ∧ t < k then sgn bb (val l3) - 1 else sgn bb (val l3)) := by
        intro t ht
        rw [Hv3.out, ← Hzv.out, ← sgn_div bb z.natAbs k t ht, ← Hzb.out]
      have Hf4 : Hid (Fit K (sgn bb (val l3))) := by
        refine Hf.out.le ?_
        have e : (sgn bb (val l3)).natAbs = val l3 := by cases bb <;> simp [sgn]
        rw [e, Hv3.out, Hzv.out]
        exact Nat.div_le_self _ _
      refine (Hn.out _ hO.ext).mono ?_
      rintro e w6 ⟨rfl, he6, hx6⟩
      have o0 := cellKeep hx6 HO.out.lt HO.out.o0; have o1 := cellKeep hx6 HO.out.lt HO.out.o1
      have I6 := HO.out.int.ext hx6
      have ho6 := HO.out.ge
      have hlt6 := Nat.lt_of_lt_of_le HO.out.lt hx6.size
      have ho7 : W0.heap.size ≤ w6.heap.size := he6.size
      have y0 := cellKeep he6 hB c0; have y1 := cellKeep he6 hB c1
      have hr6 := hbx.res.ext he6
      have HE6 : Hid (Ext w w6) := hbx.ext.trans he6
      have hsz : w.heap.size + 1 < W0.heap.size := by have := hbx.size; omega
      clear hO
      cases bb
      case false =>
        have k0' := hr6.c0; have k1' := hr6.c1; have g0' := hr6.f0; have g1' := hr6.f1
        go_wp2_with fail
        have Hc : sgn false (val l3) = z / 2 ^ k := by rw [Hzb.out, Hv3.out, ← Hzv.out]; simp [sgn]
        exact bodyPost_ret (v := .agg #[.int .i64 s4, .slice a4 n4 c4]) (by simp [results, Tryd.results39, go_sem, k0', k1']) rfl ⟨s4, a4, n4, c4, rfl, (I6.cast Hc).keep64 (Keep64.set2 (.i64 k0') (.slice k1') (notW_i64 _) _), HE6.out.put2 (by omega) _ _⟩
      case true =>
        go_wp2_with fail
        refine (Twos_any sm (some ⟨b, o, none⟩) n c z w6 (HI.out.ext HE6.out) (by omega) (bru_ext Hbr.out HE6.out)).mono ?_
        rintro e w7 ⟨t, rfl, ht1, ht0, ht2, hx7⟩
        have Ht1 := hid (ht1 Hz0.out)
        have o0' := cellKeep hx7 hlt6 o0; have o1' := cellKeep hx7 hlt6 o1
        have I7 := I6.ext hx7
        have hr7 := hr6.ext hx7
        have z7 := hx7.size
        have HE7 : Hid (Ext w w7) := HE6.out.trans hx7
        clear ht1 ht0 o0 o1 y0 y1
        by_cases htk : t < k
        · have itk : (t : Int) < (k : Int) := by omega
          have Hfin := Hval.out t Ht1.out
          rw [if_pos ⟨by simp, htk⟩] at Hfin
          have HFin := hid Hfin
          have Ho := hid (Of_from (w := w7) 1 (by omega) (by omega)); have Hsub := hid (Sub_from I7 K hK Hf4.out)
          have h7d : Ext w7 w7.drew := Below.drew (Ext.refl _)
          clear Hfin
          go_wp2_with fail
          go_region_held3 (fun w' => w'.cell? ⟨W0.heap.size, 0, none⟩ = some (.int .i64 s4) ∧ w'.cell? ⟨W0.heap.size, 1, none⟩ = some (.slice a4 n4 c4))
            (refine ⟨?_, ?_⟩ <;> (repeat (refine cellPut (by omega) ?_)) <;> exact cellKeep (W := w7) (by assumption) (by omega) (by assumption))
            (first | (go_at_call 21; refine (Ho.out _ (by assumption)).mono ?_; rintro e wa ⟨rfl, hea, hxa⟩) | (go_at_call 26; refine (Hsub.out _ 1 none 0 0 1 (by assumption) (IsInt.small _ _ (by omega) (by omega)) (Fit.one hK1)).mono ?_; rintro e wb ⟨s8, a8, n8, c8, rfl, hI8, heb, hxb⟩; have hr8 := hr7.ext heb; have k0' := hr8.c0; have k1' := hr8.c1; have g0' := hr8.f0; have g1' := hr8.f1))
          go_wp2_with fail
          exact bodyPost_ret (v := .agg #[.int .i64 s8, .slice a8 n8 c8]) (by simp [results, Tryd.results39, go_sem, k0', k1']) rfl ⟨s8, a8, n8, c8, rfl, (hI8.cast HFin.out.symm).keep64 (Keep64.set2 (.i64 k0') (.slice k1') (notW_i64 _) _), (HE7.out.trans heb).put2 (by omega) _ _⟩
        · have itk : ¬ (t : Int) < (k : Int) := by omega
          have Hfin := Hval.out t Ht1.out
          rw [if_neg (fun h => htk h.2)] at Hfin
          have k0' := hr7.c0; have k1' := hr7.c1; have g0' := hr7.f0; have g1' := hr7.f1
          have HFin := hid Hfin
          clear Hfin
          go_wp2_with fail
          exact bodyPost_ret (v := .agg #[.int .i64 s4, .slice a4 n4 c4]) (by simp [results, Tryd.results39, go_sem, k0', k1']) rfl ⟨s4, a4, n4, c4, rfl, (I7.cast HFin.out.symm).keep64 (Keep64.set2 (.i64 k0') (.slice k1') (notW_i64 _) _), HE7.out.put2 (by omega) _ _⟩

end Go.Proofs.YtnemjllghpijgaaDoor
namespace Go.Proofs.YtnemjllghpijgaaDoor
open Go.RowKit

/-- A variable that holds a number. -/
structure Box (W : World) (g : Nat) (s : Int) (a : Option Addr) (n c : Nat) : Prop where
  row : W.heap[g]? = some (.cells #[.int .i64 s, .slice a n c] 24 (0, 0))
theorem Box.lt {W : World} {g : Nat} {s : Int} {a : Option Addr} {n c : Nat} (h : Box W g s a n c) : g < W.heap.size := (Array.getElem?_eq_some_iff.1 h.row).1
theorem Box.ext {W W' : World} {g : Nat} {s : Int} {a : Option Addr} {n c : Nat} (h : Box W g s a n c) (k : Ext W W') : Box W' g s a n c := ⟨(k.block _ h.lt).trans h.row⟩
theorem Box.c0 {W : World} {g : Nat} {s : Int} {a : Option Addr} {n c : Nat} (h : Box W g s a n c) : W.cell? ⟨g, 0, none⟩ = some (.int .i64 s) := by rw [cell_of_row W g 0 _ _ (0, 0) h.row]; rfl
theorem Box.c1 {W : World} {g : Nat} {s : Int} {a : Option Addr} {n c : Nat} (h : Box W g s a n c) : W.cell? ⟨g, 1, none⟩ = some (.slice a n c) := by rw [cell_of_row W g 1 _ _ (0, 0) h.row]; rfl
theorem Box.f0 {W : World} {g : Nat} {s : Int} {a : Option Addr} {n c : Nat} (h : Box W g s a n c) : W.frozen? ⟨g, 0, none⟩ = false := frozen_of_row W g 0 _ _ h.row
theorem Box.f1 {W : World} {g : Nat} {s : Int} {a : Option Addr} {n c : Nat} (h : Box W g s a n c) : W.frozen? ⟨g, 1, none⟩ = false := frozen_of_row W g 1 _ _ h.row
theorem Box.own {W : World} {g : Nat} {s : Int} {a : Option Addr} {n c : Nat} (h : Box W g s a n c) (s' : Int) (a' : Option Addr) (n' c' : Nat) : Box ((W.setCell ⟨g, 0, none⟩ (.int .i64 s')).setCell ⟨g, 1, none⟩ (.slice a' n' c')) g s' a' n' c' := by
  have h1 := heap_setCell_same W g 0 _ _ (.int .i64 s') h.row
  have h2 := heap_setCell_same (W.setCell ⟨g, 0, none⟩ (.int .i64 s')) g 1 _ _ (.slice a' n' c') h1
  exact ⟨h2⟩
theorem Box.put {W : World} {g h o : Nat} {s : Int} {a : Option Addr} {n c : Nat} (hb : Box W g s a n c) (hne : g ≠ h) (u : Value) : Box (W.setCell ⟨h, o, none⟩ u) g s a n c :=
  ⟨(Below.heap_setCell _ _ _ _ hne).trans hb.row⟩
theorem Res.box {W : World} {g : Nat} (h : Res W g) : Box W g 0 none 0 0 := ⟨h.row⟩
theorem box_new (w : World) (s : Int) (a : Option Addr) (n c : Nat) : Box (w.alloc (.cells #[.int .i64 s, .slice a n c] 24)) w.heap.size s a n c := ⟨heap_alloc_new w _⟩

/-- The words that lie at b, o. -/
def wordsAt (w : World) (b o n : Nat) : List Nat := (List.range n).map fun t => match w.cell? ⟨b, o + t, none⟩ with
  | some (.int .u64 x) => x.toNat
  | _ => 0
/-- The size of the number that a variable holds. -/
def boxAbs (w : World) (B : Nat) : Nat := match w.cell? ⟨B, 0, none⟩, w.cell? ⟨B, 1, none⟩ with
  | some (.int .i64 s), some (.slice none _ _) => s.natAbs
  | some _, some (.slice (some a) n _) => val (wordsAt w a.block a.off n)
  | _, _ => 0

theorem wordsAt_eq {w : World} {b o : Nat} {l : List Nat} (h : Seg w (some ⟨b, o, none⟩) l) : wordsAt w b o l.length = l := by
  rcases h with ⟨h, _⟩ | ⟨b', o', h, _, hc⟩
  · cases h
  · simp only [Option.some.injEq, Addr.mk.injEq, and_true] at h
    obtain ⟨rfl, rfl⟩ := h
    apply List.ext_getElem
    · simp [wordsAt]
    · intro i h1 h2
      have := hc i h2
      simp only [wordsAt, List.getElem_map, List.getElem_range, this]
      rw [List.getD_eq_getElem?_getD, List.getElem?_eq_getElem h2]
      simp

theorem boxAbs_eq {w : World} {B : Nat} {s : Int} {a : Option Addr} {n c : Nat} {z : Int} (h0 : w.cell? ⟨B, 0, none⟩ = some (.int .i64 s)) (h1 : w.cell? ⟨B, 1, none⟩ = some (.slice a n c)) (h : IsInt w s a n c z) : boxAbs w B = z.natAbs := by
  unfold boxAbs
  rw [h0, h1]
  rcases h with ⟨rfl, rfl, rfl, rfl, _⟩ | ⟨b, o, l, rfl, rfl, _, _, hs, _, _, hz⟩
  · rfl
  · show val (wordsAt w b o l.length) = _
    rw [wordsAt_eq hs]
    rcases hz with ⟨_, rfl, _⟩ | ⟨_, rfl, _⟩ <;> omega

theorem halve_abs {z : Int} {t : Nat} (h : Tw z.natAbs t) : (z / 2 ^ t).natAbs = z.natAbs / 2 ^ t := by
  have hz : z = sgn (decide (z < 0)) z.natAbs := by
    by_cases hn : z < 0
    · simp [sgn, hn]; omega
    · simp [sgn, hn]; omega
  have h1 := sgn_div (decide (z < 0)) z.natAbs t t h
  rw [if_neg (fun k => Nat.lt_irrefl _ k.2), ← hz] at h1
  rw [h1]
  generalize z.natAbs / 2 ^ t = q
  unfold sgn
  split <;> simp

theorem halve_from {w : World} {sm : Int} {ao : Option Addr} {n c : Nat} {z : Int} (h : IsInt w sm ao n c z) (k : Nat) (hk : k ≤ 1073741824) (K : Nat) (hK : K ≤ 4194304) (hK1 : 1 ≤ K) (hf : Fit K z) (hbr : Bru w) : ∀ wx : World, Ext w wx →
    Calls Tryd.prog 39 #[.agg #[.int .i64 sm, .slice ao n c], .int .u64 k] wx fun e w' => ∃ (s' : Int) (a' : Option Addr) (n' c' : Nat), e = .returned (.agg #[.int .i64 s', .slice a' n' c']) ∧ IsInt w' s' a' n' c' (z / 2 ^ k) ∧ Ext w w' ∧ Ext wx w' :=
  fun wx hx => (halve_any sm ao n c z k wx (h.ext hx) hk K hK hK1 hf (bru_ext hbr hx)).mono fun _ _ ⟨s', a', n', c', h1, h2, h3⟩ => ⟨s', a', n', c', h1, h2, hx.trans h3, h3⟩

theorem Twos_from {w : World} {sm : Int} {ao : Option Addr} {n c : Nat} {z : Int} (h : IsInt w sm ao n c z) (hn : n ≤ 16777216) (hz : z ≠ 0) (hbr : Bru w) : ∀ wx : World, Ext w wx →
    Calls Tryd.prog 38 #[.agg #[.int .i64 sm, .slice ao n c]] wx fun e w' => ∃ t : Nat, e = .returned (.int .i64 t) ∧ Hid (Tw z.natAbs t) ∧ t < 64 * n + 64 ∧ Ext w w' ∧ Ext wx w' :=
  fun wx hx => (Twos_any sm ao n c z wx (h.ext hx) hn (bru_ext hbr hx)).mono fun _ _ ⟨t, h1, h2, _, h4, h5⟩ => ⟨t, h1, h2 hz, h4, hx.trans h5, h5⟩

set_option maxHeartbeats 1600000 in
set_option maxRecDepth 100000 in
/-- One of them is 0. -/
theorem Gcd_zero (s1 s2 : Int) (a1 a2 : Option Addr) (n1 c1 n2 c2 : Nat) (z1 z2 : Int) (w : World) (h1 : IsInt w s1 a1 n1 c1 z1) (h2 : IsInt w s2 a2 n2 c2 z2) (K : Nat) (hK : K ≤ 4194304) (hf1 : Fit K z1) (hf2 : Fit K z2) (hz0 : z1 = 0 ∨ z2 = 0) :
    Calls Tryd.prog 11 #[.agg #[.int .i64 s1, .slice a1 n1 c1], .agg #[.int .i64 s2, .slice a2 n2 c2]] w fun e w' => ∃ (s' : Int) (a' : Option Addr) (n' c' : Nat), e = .returned (.agg #[.int .i64 s', .slice a' n' c']) ∧ IsInt w' s' a' n' c' (Nat.gcd z1.natAbs z2.natAbs : Nat) ∧ Ext w w' := by
  have Hf1 := hid hf1; have Hf2 := hid hf2; have H1 := hid h1; have H2 := hid h2
  have hc1 := h1.cmp3; have hc2 := h2.cmp3
  have hg : (z1 + z2).natAbs = Nat.gcd z1.natAbs z2.natAbs := by
    rcases hz0 with h | h
    · subst h; simp
    · subst h; simp
  have Hg := hid hg
  have Hs1 := hid (Sign_any s1 (.slice a1 n1 c1)); have Hs2 := hid (Sign_any s2 (.slice a2 n2 c2))
  obtain ⟨g1, hg1⟩ : ∃ g, cmp3 s1 0 = g := ⟨_, rfl⟩
  obtain ⟨g2, hg2⟩ : ∃ g, cmp3 s2 0 = g := ⟨_, rfl⟩
  rw [hg1] at Hs1; rw [hg2] at Hs2
  have hcase : g1 = 0 ∨ ((g1 == 0) = false ∧ g2 = 0) := by
    by_cases h : g1 = 0
    · exact Or.inl h
    · right
      refine ⟨by rw [beq_eq_false_iff_ne]; exact h, ?_⟩
      have h3 : z1 ≠ 0 := by
        intro h4
        apply h
        rw [← hg1, hc1, h4]; decide
      have h5 : z2 = 0 := hz0.resolve_left h3
      rw [← hg2, hc2, h5]; decide
  clear hf1 hf2 h1 h2 hc1 hc2 hz0 hg hg1 hg2
  have hbx := boxes2 w (.int .i64 s1) (.slice a1 n1 c1) (.int .i64 s2) (.slice a2 n2 c2)
  rcases hcase with rfl | ⟨hb1, rfl⟩
  · go_enter Tryd.func11, Tryd.ntmps11
    go_wp2_with fail
    generalize ((w.alloc (.cells #[.int .i64 s1, .slice a1 n1 c1] 24)).alloc (.cells #[.int .i64 s2, .slice a2 n2 c2] 24)).alloc (.cells #[.int .i64 0, .slice none 0 0] 24) = W0 at *
    refine (Hs1.out _).mono ?_
    rintro e we ⟨rfl, hxe⟩
    obtain ⟨y0, y1, y2, y3⟩ := keep4' hxe hbx
    go_wp2_with fail
    refine (Add_any s1 s2 a1 a2 n1 c1 n2 c2 z1 z2 we (H1.out.ext (hbx.ext.trans hxe)) (H2.out.ext (hbx.ext.trans hxe)) K hK Hf1.out Hf2.out).mono ?_
    rintro e wf ⟨s3, a3, n3, c3, rfl, hI3, hxf⟩
    go_wp2_with fail
    refine (withoutSign_any s3 a3 n3 c3 _ wf hI3).mono ?_
    rintro e wg ⟨s4, a4, n4, c4, rfl, hI4, hxg⟩
    have hr4 := hbx.res.ext (hxe.trans (hxf.trans hxg))
    have k0 := hr4.c0; have k1 := hr4.c1; have g0 := hr4.f0; have g1 := hr4.f1
    go_wp2_with fail
    exact bodyPost_ret (v := .agg #[.int .i64 s4, .slice a4 n4 c4]) (by simp [results, Tryd.results11, go_sem, k0, k1]) rfl ⟨s4, a4, n4, c4, rfl, (hI4.cast (by rw [Hg.out])).keep64 (Keep64.set2 (.i64 k0) (.slice k1) (notW_i64 _) _), (hbx.ext.trans (hxe.trans (hxf.trans hxg))).put2 (by omega) _ _⟩
  · go_enter Tryd.func11, Tryd.ntmps11
    go_wp2_with fail
    generalize ((w.alloc (.cells #[.int .i64 s1, .slice a1 n1 c1] 24)).alloc (.cells #[.int .i64 s2, .slice a2 n2 c2] 24)).alloc (.cells #[.int .i64 0, .slice none 0 0] 24) = W0 at *
    refine (Hs1.out _).mono ?_
    rintro e wd ⟨rfl, hxd⟩
    obtain ⟨x0, x1, x2, x3⟩ := keep4' hxd hbx
    go_wp2_with fail
    refine (Hs2.out _).mono ?_
    rintro e we ⟨rfl, hxe'⟩
    have hxe := hxd.trans hxe'
    obtain ⟨y0, y1, y2, y3⟩ := keep4' hxe hbx
    clear x0 x1 x2 x3
    go_wp2_with fail
    refine (Add_any s1 s2 a1 a2 n1 c1 n2 c2 z1 z2 we (H1.out.ext (hbx.ext.trans hxe)) (H2.out.ext (hbx.ext.trans hxe)) K hK Hf1.out Hf2.out).mono ?_
    rintro e wf ⟨s3, a3, n3, c3, rfl, hI3, hxf⟩
    go_wp2_with fail
    refine (withoutSign_any s3 a3 n3 c3 _ wf hI3).mono ?_
    rintro e wg ⟨s4, a4, n4, c4, rfl, hI4, hxg⟩
    have hr4 := hbx.res.ext (hxe.trans (hxf.trans hxg))
    have k0 := hr4.c0; have k1 := hr4.c1; have g0 := hr4.f0; have g1 := hr4.f1
    go_wp2_with fail
    exact bodyPost_ret (v := .agg #[.int .i64 s4, .slice a4 n4 c4]) (by simp [results, Tryd.results11, go_sem, k0, k1]) rfl ⟨s4, a4, n4, c4, rfl, (hI4.cast (by rw [Hg.out])).keep64 (Keep64.set2 (.i64 k0) (.slice k1) (notW_i64 _) _), (hbx.ext.trans (hxe.trans (hxf.trans hxg))).put2 (by omega) _ _⟩

end Go.Proofs.YtnemjllghpijgaaDoor
namespace Go.Proofs.YtnemjllghpijgaaDoor
open Go.RowKit

theorem Bx.sg {sg z s : Int} (hsg : cmp3 s 0 = sg) (hc : cmp3 s 0 = cmp3 z 0) (hz : z ≠ 0) : (sg == 0) = false := by
  rw [beq_eq_false_iff_ne, ← hsg, hc]
  unfold cmp3
  split
  · decide
  · split
    · decide
    · omega

set_option maxHeartbeats 2000000 in
set_option maxRecDepth 100000 in
theorem Gcd_any (s1 s2 : Int) (a1 a2 : Option Addr) (n1 c1 n2 c2 : Nat) (z1 z2 : Int) (w : World) (h1 : IsInt w s1 a1 n1 c1 z1) (h2 : IsInt w s2 a2 n2 c2 z2) (K : Nat) (hK : K ≤ 4194304) (hK1 : 1 ≤ K) (hf1 : Fit K z1) (hf2 : Fit K z2) (hz1 : z1 ≠ 0) (hz2 : z2 ≠ 0) (hbr : Bru w) :
    Calls Tryd.prog 11 #[.agg #[.int .i64 s1, .slice a1 n1 c1], .agg #[.int .i64 s2, .slice a2 n2 c2]] w fun e w' => ∃ (s' : Int) (a' : Option Addr) (n' c' : Nat), e = .returned (.agg #[.int .i64 s', .slice a' n' c']) ∧ IsInt w' s' a' n' c' (Nat.gcd z1.natAbs z2.natAbs : Nat) ∧ Ext w w' := by
  have hn1 := h1.len hf1; have hn2 := h2.len hf2
  have Hf1 := hid hf1; have Hf2 := hid hf2; have H1 := hid h1; have H2 := hid h2; have Hz1 := hid hz1; have Hz2 := hid hz2; have Hbr := hid hbr
  have Hs1 := hid (Sign_any s1 (.slice a1 n1 c1)); have Hs2 := hid (Sign_any s2 (.slice a2 n2 c2))
  obtain ⟨g1, hg1⟩ : ∃ g, cmp3 s1 0 = g := ⟨_, rfl⟩
  obtain ⟨g2, hg2⟩ : ∃ g, cmp3 s2 0 = g := ⟨_, rfl⟩
  have hb1 := Bx.sg hg1 h1.cmp3 hz1; have hb2 := Bx.sg hg2 h2.cmp3 hz2
  rw [hg1] at Hs1; rw [hg2] at Hs2
  clear hf1 hf2 h1 h2 hz1 hz2 hg1 hg2 hbr
  have hbx := boxes2 w (.int .i64 s1) (.slice a1 n1 c1) (.int .i64 s2) (.slice a2 n2 c2)
  have bxA := ((box_new w s1 a1 n1 c1).ext (Ext.alloc _ (.cells #[.int .i64 s2, .slice a2 n2 c2] 24))).ext (Ext.alloc _ (.cells #[.int .i64 0, .slice none 0 0] 24))
  have bxB := (box_new (w.alloc (.cells #[.int .i64 s1, .slice a1 n1 c1] 24)) s2 a2 n2 c2).ext (Ext.alloc _ (.cells #[.int .i64 0, .slice none 0 0] 24))
  rw [show (w.alloc (.cells #[.int .i64 s1, .slice a1 n1 c1] 24)).heap.size = w.heap.size + 1 from by simp] at bxB
  go_enter Tryd.func11, Tryd.ntmps11
  go_wp2_with fail
  generalize ((w.alloc (.cells #[.int .i64 s1, .slice a1 n1 c1] 24)).alloc (.cells #[.int .i64 s2, .slice a2 n2 c2] 24)).alloc (.cells #[.int .i64 0, .slice none 0 0] 24) = W0 at *
  refine (Hs1.out _).mono ?_
  rintro e wd ⟨rfl, hxd⟩
  obtain ⟨x0, x1, x2, x3⟩ := keep4' hxd hbx
  go_wp2_with fail
  refine (Hs2.out _).mono ?_
  rintro e we ⟨rfl, hxe'⟩
  have hxe := hxd.trans hxe'
  obtain ⟨y0, y1, y2, y3⟩ := keep4' hxe hbx
  have hBe : w.heap.size + 2 < we.heap.size := by have := hbx.size; have := hxe.size; omega
  have HEe : Hid (Ext w we) := hbx.ext.trans hxe
  have Ht1 := hid (Twos_from (H1.out.ext HEe.out) (by omega) Hz1.out (bru_ext Hbr.out HEe.out)); have Ht2 := hid (Twos_from (H2.out.ext HEe.out) (by omega) Hz2.out (bru_ext Hbr.out HEe.out))
  have hed : Ext we we.drew := Below.drew (Ext.refl _)
  clear x0 x1 x2 x3
  go_wp2_with fail
  go_region_held3 (fun w' => w'.cell? ⟨w.heap.size, 0, none⟩ = some (.int .i64 s1) ∧ w'.cell? ⟨w.heap.size, 1, none⟩ = some (.slice a1 n1 c1) ∧ w'.cell? ⟨w.heap.size + 1, 0, none⟩ = some (.int .i64 s2) ∧ w'.cell? ⟨w.heap.size + 1, 1, none⟩ = some (.slice a2 n2 c2)) (exact keep4 (by assumption) (by omega) y0 y1 y2 y3)
    (first | (go_at_call_of 38 s1; refine (Ht1.out _ (by assumption)).mono ?_; rintro e wa ⟨t1, rfl, Htw1, htl1, hea, hxa⟩) | (go_at_call_of 38 s2; refine (Ht2.out _ (by assumption)).mono ?_; rintro e wb ⟨t2, rfl, Htw2, htl2, heb, hxb⟩))
  obtain ⟨u0, u1, u2, u3⟩ := keep4 heb (by omega) y0 y1 y2 y3
  have hBb : w.heap.size + 2 < wb.heap.size := by have := heb.size; omega
  have HEb : Hid (Ext w wb) := HEe.out.trans heb
  have rb := hbx.res.ext (hxe.trans heb); have bA := bxA.ext (hxe.trans heb); have bB := bxB.ext (hxe.trans heb)
  have Hh1 := hid (halve_from (H1.out.ext HEb.out) t1 (by omega) K hK hK1 Hf1.out (bru_ext Hbr.out HEb.out)); have Hh2 := hid (halve_from (H2.out.ext HEb.out) t2 (by omega) K hK hK1 Hf2.out (bru_ext Hbr.out HEb.out))
  have hbd : Ext wb wb.drew := Below.drew (Ext.refl _)
  clear y0 y1 y2 y3 hea hxa heb hxb hed hxe hxe' hxd
  go_wp2_with fail
  have ew1 : IntKind.u64.wrap (t1 : Int) = (t1 : Int) := by rw [IntKind.wrap_u64]; omega
  have ew2 : IntKind.u64.wrap (t2 : Int) = (t2 : Int) := by rw [IntKind.wrap_u64]; omega
  rw [ew1, ew2]
  clear ew1 ew2
  go_region_with (first | (go_at_call_of 39 s1; refine (Hh1.out _ (by assumption)).mono ?_; rintro e w5 ⟨s5, a5, n5, c5, rfl, hI5, he5, hx5⟩; have v2 := cellKeep he5 (by omega) u2; have v3 := cellKeep he5 (by omega) u3) | (go_at_call_of 39 s2; refine (Hh2.out _ (by assumption)).mono ?_; rintro e w6 ⟨s6, a6, n6, c6, rfl, hI6, he6, hx6⟩; have bA6 := bA.ext he6; have bB6 := bB.ext he6; have k0 := bA6.c0; have k1 := bA6.c1; have g0 := bA6.f0; have g1 := bA6.f1; have k2 := bB6.c0; have k3 := bB6.c1; have g2 := bB6.f0; have g3 := bB6.f1))
  all_goals
    have rb6 := (rb.ext he6).box
    have hkk := Keep64.set4 (w := w6) (.i64 k0) (.slice k1) (.i64 k2) (.slice k3) (notW_i64 s5) (notW_slice a5 n5 c5) (notW_i64 s6) (.slice a6 n6 c6)
    have bA7 := ((bA6.own s5 a5 n5 c5).put (h := w.heap.size + 1) (o := 0) (by omega) (.int .i64 s6)).put (h := w.heap.size + 1) (o := 1) (by omega) (.slice a6 n6 c6)
    have bB7 := ((bB6.put (h := w.heap.size) (o := 0) (by omega) (.int .i64 s5)).put (h := w.heap.size) (o := 1) (by omega) (.slice a5 n5 c5)).own s6 a6 n6 c6
    have bR7 := (((rb6.put (h := w.heap.size) (o := 0) (by omega) (.int .i64 s5)).put (h := w.heap.size) (o := 1) (by omega) (.slice a5 n5 c5)).put (h := w.heap.size + 1) (o := 0) (by omega) (.int .i64 s6)).put (h := w.heap.size + 1) (o := 1) (by omega) (.slice a6 n6 c6)
    have I5 := (hI5.ext hx6).keep64 hkk
    have I6 := hI6.keep64 hkk
    have E7 := ((HEb.out.trans he6).put2 (g := w.heap.size) (o := 0) (o' := 1) (by omega) (.int .i64 s5) (.slice a5 n5 c5)).put2 (g := w.heap.size + 1) (o := 0) (o' := 1) (by omega) (.int .i64 s6) (.slice a6 n6 c6)
    have HG : Hid (Nat.gcd z1.natAbs z2.natAbs = 2 ^ (min t1 t2) * Nat.gcd (z1 / 2 ^ t1).natAbs (z2 / 2 ^ t2).natAbs) := by
      show _ = _
      rw [halve_abs Htw1.out, halve_abs Htw2.out]
      exact gcd_twos Htw1.out Htw2.out
    have Hfa : Hid (Fit K (z1 / 2 ^ t1)) := Hf1.out.le (by rw [halve_abs Htw1.out]; exact Nat.div_le_self _ _)
    have Hfb : Hid (Fit K (z2 / 2 ^ t2)) := Hf2.out.le (by rw [halve_abs Htw2.out]; exact Nat.div_le_self _ _)
    generalize (((w6.setCell ⟨w.heap.size, 0, none⟩ (.int .i64 s5)).setCell ⟨w.heap.size, 1, none⟩ (.slice a5 n5 c5)).setCell ⟨w.heap.size + 1, 0, none⟩ (.int .i64 s6)).setCell ⟨w.heap.size + 1, 1, none⟩ (.slice a6 n6 c6) = W7 at *
    clear hkk k0 k1 k2 k3 g0 g1 g2 g3 bA6 bB6 rb6 rb bA bB u0 u1 u2 u3 hI5 hI6 he5 he6 hx5 hx6 hbd
    obtain ⟨G, hG⟩ : ∃ G, Nat.gcd (z1 / 2 ^ t1).natAbs (z2 / 2 ^ t2).natAbs = G := ⟨_, rfl⟩
    rw [hG] at HG
    have HG' := hid hG
    clear hG
    go_wp2_with fail
    go_loopw [8] (fun _ wr => ∃ (sA : Int) (aA : Option Addr) (nA cA : Nat) (zA sB : Int) (aB : Option Addr) (nB cB : Nat) (zB : Int), Box wr w.heap.size sA aA nA cA ∧ Box wr (w.heap.size + 1) sB aB nB cB ∧ Box wr (w.heap.size + 1 + 1) 0 none 0 0 ∧ IsInt wr sA aA nA cA zA ∧ IsInt wr sB aB nB cB zB ∧ Fit K zA ∧ Fit K zB ∧ Nat.gcd zA.natAbs zB.natAbs = G ∧ Ext w wr) (fun _ wr => boxAbs wr (w.heap.size + 1))
    case atStart => exact ⟨s5, a5, n5, c5, _, s6, a6, n6, c6, _, bA7, bB7, bR7, I5, I6, Hfa.out, Hfb.out, HG'.out, E7⟩
    case round =>
      clear bA7 bB7 bR7 I5 I6 E7
      obtain ⟨sA, aA, nA, cA, zA, sB, aB, nB, cB, zB, bA, bB, bR, IA, IB, fA, fB, hgc, hEr⟩ := hrel
      have HIA := hid IA; have HIB := hid IB; have HfA := hid fA; have HfB := hid fB; have Hgc := hid hgc
      have Hm : Hid (boxAbs wr (w.heap.size + 1) = zB.natAbs) := boxAbs_eq bB.c0 bB.c1 IB
      have Hs := hid (Sign_any sB (.slice aB nB cB))
      have hcB := IB.cmp3
      obtain ⟨g, hg⟩ : ∃ g, cmp3 sB 0 = g := ⟨_, rfl⟩
      rw [hg] at Hs
      have k0 := bA.c0; have k1 := bA.c1; have k2 := bB.c0; have k3 := bB.c1
      by_cases hzB : zB = 0
      · have hg0 : g = 0 := by rw [← hg, hcB, hzB]; decide
        subst hg0
        have Hfin : Hid (zA.natAbs = G) := by
          show _ = _
          have := Hgc.out
          rw [hzB] at this
          simpa using this
        clear IA IB fA fB hgc hcB hg hzB
        go_wp2_with fail
        refine (Hs.out _).mono ?_
        rintro e we ⟨rfl, hxe⟩
        have x0 := cellKeep hxe bA.lt k0; have x1 := cellKeep hxe bA.lt k1
        go_wp2_with fail
        refine (withoutSign_any sA aA nA cA zA we (HIA.out.ext hxe)).mono ?_
        rintro e wf ⟨s8, a8, n8, c8, rfl, hI8, hxf⟩
        go_wp2_with fail
        have em : min (t1 : Int) (t2 : Int) = ((min t1 t2 : Nat) : Int) := by omega
        rw [em]
        refine (double_any s8 a8 n8 c8 _ (min t1 t2) wf hI8 (by omega) K hK (HfA.out.le (by simp))).mono ?_
        rintro e wg ⟨s9, a9, n9, c9, rfl, hI9, hxg⟩
        have hr9 := bR.ext (hxe.trans (hxf.trans hxg))
        have j0 := hr9.c0; have j1 := hr9.c1; have f0 := hr9.f0; have f1 := hr9.f1
        have Hc : ((zA.natAbs : Nat) : Int) * 2 ^ min t1 t2 = ((Nat.gcd z1.natAbs z2.natAbs : Nat) : Int) := by
          rw [HG.out, Hfin.out, Nat.mul_comm]
          simp
        have HC := hid Hc
        have HE9 : Hid (Ext w wg) := hEr.trans (hxe.trans (hxf.trans hxg))
        clear em Hc x0 x1 k0 k1 k2 k3
        go_wp2_with fail
        exact bodyPost_ret (v := .agg #[.int .i64 s9, .slice a9 n9 c9]) (by simp [results, Tryd.results11, go_sem, j0, j1]) rfl ⟨s9, a9, n9, c9, rfl, (hI9.cast HC.out).keep64 (Keep64.set2 (.i64 j0) (.slice j1) (notW_i64 _) _), HE9.out.put2 (by omega) _ _⟩
      · have hbn : (g != 0) = true := by
          have := Bx.sg hg hcB hzB
          rw [bne, this]; rfl
        have HzB := hid hzB
        have Hdt := hid (fun wx (hx : Ext wr wx) => divTowards_any sA sB aA aB nA cA nB cB zA zB wx (HIA.out.ext hx) (HIB.out.ext hx) K hK HfA.out HfB.out HzB.out)
        clear IA IB fA fB hgc hcB hg hzB
        go_wp2_with fail
        refine (Hs.out _).mono ?_
        rintro e we ⟨rfl, hxe⟩
        have x0 := cellKeep hxe bA.lt k0; have x1 := cellKeep hxe bA.lt k1; have x2 := cellKeep hxe bB.lt k2; have x3 := cellKeep hxe bB.lt k3
        clear k0 k1 k2 k3
        go_wp2_with fail
        refine (Hdt.out _ hxe).mono ?_
        rintro e wf ⟨s3, a3, n3, c3, s4, a4, n4, c4, rfl, hI3, hI4, hxf⟩
        have hE1 := Ext.alloc wf (.cells #[.int .i64 s3, .slice a3 n3 c3] 24)
        have hE2 := Ext.alloc (wf.alloc (.cells #[.int .i64 s3, .slice a3 n3 c3] 24)) (.cells #[.int .i64 s4, .slice a4 n4 c4] 24)
        have b4 := box_new (wf.alloc (.cells #[.int .i64 s3, .slice a3 n3 c3] 24)) s4 a4 n4 c4
        rw [show (wf.alloc (.cells #[.int .i64 s3, .slice a3 n3 c3] 24)).heap.size = wf.heap.size + 1 from by simp] at b4
        have hE3 := (hxe.trans hxf).trans (hE1.trans hE2)
        have I4 := hI4.ext (hE1.trans hE2)
        have hw3 : w.heap.size + 2 < wf.heap.size := by have := bR.lt; have := hxe.size; have := hxf.size; omega
        clear x0 x1 x2 x3
        go_wp2_with fail
        generalize (wf.alloc (.cells #[.int .i64 s3, .slice a3 n3 c3] 24)).alloc (.cells #[.int .i64 s4, .slice a4 n4 c4] 24) = W8 at *
        have bA8 := bA.ext hE3; have bB8 := bB.ext hE3; have bR8 := bR.ext hE3
        have k0 := bA8.c0; have k1 := bA8.c1; have g0 := bA8.f0; have g1 := bA8.f1; have k2 := bB8.c0; have k3 := bB8.c1; have g2 := bB8.f0; have g3 := bB8.f1; have j0 := b4.c0; have j1 := b4.c1
        have hkk := Keep64.set4 (w := W8) (.i64 k0) (.slice k1) (.i64 k2) (.slice k3) (notW_i64 sB) (notW_slice aB nB cB) (notW_i64 s4) (.slice a4 n4 c4)
        have bA9 := ((bA8.own sB aB nB cB).put (h := w.heap.size + 1) (o := 0) (by omega) (.int .i64 s4)).put (h := w.heap.size + 1) (o := 1) (by omega) (.slice a4 n4 c4)
        have bB9 := ((bB8.put (h := w.heap.size) (o := 0) (by omega) (.int .i64 sB)).put (h := w.heap.size) (o := 1) (by omega) (.slice aB nB cB)).own s4 a4 n4 c4
        have bR9 := (((bR8.put (h := w.heap.size) (o := 0) (by omega) (.int .i64 sB)).put (h := w.heap.size) (o := 1) (by omega) (.slice aB nB cB)).put (h := w.heap.size + 1) (o := 0) (by omega) (.int .i64 s4)).put (h := w.heap.size + 1) (o := 1) (by omega) (.slice a4 n4 c4)
        have IB9 := (HIB.out.ext hE3).keep64 hkk
        have I49 := I4.keep64 hkk
        have E9 := ((hEr.trans hE3).put2 (g := w.heap.size) (o := 0) (o' := 1) (by omega) (.int .i64 sB) (.slice aB nB cB)).put2 (g := w.heap.size + 1) (o := 0) (o' := 1) (by omega) (.int .i64 s4) (.slice a4 n4 c4)
        have HbA9 := hid bA9; have HbB9 := hid bB9; have HbR9 := hid bR9; have HIB9 := hid IB9; have HI49 := hid I49; have HE9 := hid E9
        clear bA9 bB9 bR9 IB9 I49 E9 hkk bA bB bR bA8 bB8 bR8 b4
        go_region
        go_wp2_with fail
        have hdr : ∀ X : World, Ext X X.drew := fun X => Below.drew (Ext.refl _)
        go_roundw
        case rel => exact ⟨sB, aB, nB, cB, zB, s4, a4, n4, c4, _, HbA9.out.ext (hdr _), HbB9.out.ext (hdr _), HbR9.out.ext (hdr _), HIB9.out.ext (hdr _), HI49.out.ext (hdr _), HfB.out, HfB.out.le (by rw [Int.natAbs_tmod]; exact Nat.le_of_lt (Nat.mod_lt _ (by have := HzB.out; omega))), (gcd_step zA zB HzB.out).trans Hgc.out, HE9.out.trans (hdr _)⟩
        case measure =>
          rw [Hm.out, boxAbs_eq (HbB9.out.ext (hdr _)).c0 (HbB9.out.ext (hdr _)).c1 (HI49.out.ext (hdr _)), Int.natAbs_tmod]
          exact Nat.mod_lt _ (by have := HzB.out; omega)

end Go.Proofs.YtnemjllghpijgaaDoor
namespace Go.Proofs.YtnemjllghpijgaaDoor
open Go.RowKit

/-- Bytes as cells. -/
def byC (l : List UInt8) : List Value := l.map fun b => Value.int .u8 (b.toNat : Int)
theorem byC_length (l : List UInt8) : (byC l).length = l.length := by simp [byC]
theorem byC_append (l m : List UInt8) : byC (l ++ m) = byC l ++ byC m := by simp [byC]
theorem byC_one (l : List UInt8) : ∀ u ∈ byC l, u.oneCell' = true := by
  intro u hu
  simp only [byC, List.mem_map] at hu
  obtain ⟨b, _, rfl⟩ := hu
  rfl
theorem byC_u8 (l : List UInt8) : ∀ u ∈ byC l, ∃ x : Int, u = .int .u8 x := by
  intro u hu
  simp only [byC, List.mem_map] at hu
  obtain ⟨b, _, rfl⟩ := hu
  exact ⟨_, rfl⟩
theorem strCells_byC (l : List UInt8) : Lib.strCells ⟨l.toArray⟩ = byC l := by simp [Lib.strCells, byC]

/-- v is a slice of the bytes l, at the head of a block of its own that holds bytes alone. -/
def Own (w : World) (e : TypeId) (v : Value) (l : List UInt8) : Prop :=
  (v = .slice none 0 0 ∧ l = []) ∨
  ∃ g cap cur, v = .slice (some ⟨g, 0, none⟩) l.length cap ∧ w.heap[g]? = some (.cells cur e (0, 0)) ∧ l.length ≤ cap ∧ cap ≤ maxLen ∧ cur.size = cap ∧ cur.toList.take l.length = byC l ∧ ∀ u ∈ cur.toList, ∃ x : Int, u = .int .u8 x

theorem Own.nil (w : World) (e : TypeId) : Own w e (.slice none 0 0) [] := Or.inl ⟨rfl, rfl⟩

/-- v has become v' by appending: no other block has turned. -/
structure Apd (w w' : World) (v v' : Value) : Prop where
  grown : w.grownBy w' v.ownBlock
  lies : v'.ownBlock = v.ownBlock ∨ ∃ g, v'.ownBlock = some g ∧ w.heap.size ≤ g

theorem Apd.of_ext {w w' : World} (h : Ext w w') (v : Value) : Apd w w' v v :=
  ⟨⟨h.os, h.tape, h.output, h.size, fun k hk _ => h.block k hk⟩, Or.inl rfl⟩
theorem Apd.trans {a b c : World} {u v x : Value} (h : Apd a b u v) (k : Apd b c v x) : Apd a c u x := by
  refine ⟨⟨k.grown.os.trans h.grown.os, k.grown.tape.trans h.grown.tape, k.grown.output.trans h.grown.output, Nat.le_trans h.grown.size k.grown.size, fun i hi hne => ?_⟩, ?_⟩
  · rw [k.grown.block i (Nat.lt_of_lt_of_le hi h.grown.size) ?_, h.grown.block i hi hne]
    rcases h.lies with e | ⟨g, e, hg⟩
    · rw [e]; exact hne
    · rw [e]; intro h2; injection h2 with h2; omega
  · rcases k.lies with e | ⟨g, e, hg⟩
    · rw [e]; exact h.lies
    · exact Or.inr ⟨g, e, Nat.le_trans h.grown.size hg⟩

theorem Apd.ext {w w' : World} {v' : Value} (h : Apd w w' (.slice none 0 0) v') : Ext w w' :=
  ⟨h.grown.os, h.grown.tape, h.grown.output, h.grown.size, fun k hk => h.grown.block k hk (by simp [Value.ownBlock])⟩

theorem Own.ext {w w' : World} {e : TypeId} {v : Value} {l : List UInt8} (h : Own w e v l) (k : Ext w w') : Own w' e v l := by
  rcases h with h | ⟨g, cap, cur, rfl, hb, rest⟩
  · exact Or.inl h
  · exact Or.inr ⟨g, cap, cur, rfl, (k.block g (Array.getElem?_eq_some_iff.1 hb).1).trans hb, rest⟩

/-- What is no byte lies in another block. -/
theorem Own.apart {w : World} {e : TypeId} {v : Value} {l : List UInt8} (h : Own w e v l) {b o : Nat} {u : Value} (hc : w.cell? ⟨b, o, none⟩ = some u) (hu : ∀ x, u ≠ .int .u8 x) : some b ≠ v.ownBlock := by
  intro hb
  rcases h with ⟨rfl, _⟩ | ⟨g, cap, cur, rfl, hg, _, _, _, _, hall⟩
  · simp [Value.ownBlock] at hb
  · simp only [Value.ownBlock, Option.some.injEq] at hb
    subst hb
    rw [cell_of_row w b o cur e (0, 0) hg] at hc
    obtain ⟨x, hx⟩ := hall u (List.mem_of_getElem? (by rw [Array.getElem?_toList]; exact hc))
    exact hu x hx

theorem Apd.cell {w w' : World} {e : TypeId} {v v' : Value} {l : List UInt8} (k : Apd w w' v v') (h : Own w e v l) {b o : Nat} {u : Value} (hc : w.cell? ⟨b, o, none⟩ = some u) (hu : ∀ x, u ≠ .int .u8 x) : w'.cell? ⟨b, o, none⟩ = some u :=
  k.grown.cell hc (h.apart hc hu)

theorem Seg.apd {w w' : World} {e : TypeId} {v v' : Value} {l : List UInt8} {ao : Option Addr} {la : List Nat} (h : Seg w ao la) (ho : Own w e v l) (k : Apd w w' v v') : Seg w' ao la := by
  rcases h with h | ⟨b, o, rfl, hb, hc⟩
  · exact Or.inl h
  · exact Or.inr ⟨b, o, rfl, Nat.lt_of_lt_of_le hb k.grown.size, fun t ht => k.cell ho (hc t ht) (fun x hx => by cases hx)⟩

/-- A table of words outlives what lays new blocks. -/
theorem tab_ext {P : Program} {w w' : World} {name : String} {k : IntKind} {zs : List Int} (h : Lib.TabIs P w name k zs) (he : Ext w w') : Lib.TabIs P w' name k zs := by
  unfold Lib.TabIs World.var? at *
  cases hg : P.globalNamed name with
  | none => simp [hg] at h
  | some g =>
    simp only [hg, Option.bind_some] at h ⊢
    have hlt : g < w.heap.size := by
      rcases Nat.lt_or_ge g w.heap.size with h' | h'
      · exact h'
      · rw [Array.getElem?_eq_none h'] at h; simp at h
    rw [he.block g hlt]
    exact h

theorem tab_apd {P : Program} {w w' : World} {name : String} {zs : List Int} {e : TypeId} {v v' : Value} {l : List UInt8} (h : Lib.TabIs P w name .u64 zs) (hz : zs ≠ []) (ho : Own w e v l) (k : Apd w w' v v') : Lib.TabIs P w' name .u64 zs := by
  unfold Lib.TabIs World.var? at *
  cases hg : P.globalNamed name with
  | none => simp [hg] at h
  | some g =>
    simp only [hg, Option.bind_some] at h ⊢
    cases hw : w.heap[g]? with
    | none => rw [hw] at h; simp at h
    | some ob =>
      have hlt : g < w.heap.size := (Array.getElem?_eq_some_iff.1 hw).1
      cases ob with
      | cells cs t fz =>
        rw [hw] at h
        simp only [Option.some.injEq] at h
        have hne : some g ≠ v.ownBlock := by
          cases zs with
          | nil => exact absurd rfl hz
          | cons z r =>
            have hc : w.cell? ⟨g, 0, none⟩ = some (.int .u64 z) := by
              rw [cell_of_row w g 0 cs t fz hw, h]; simp
            exact ho.apart hc (fun x hx => by cases hx)
        rw [k.grown.block g hlt hne, hw]
        simp [h]
      | _ => rw [hw] at h; simp at h

theorem zero_u8 (n : Nat) : ∀ u ∈ (Builtin.zeroCells (Value.int .u8 0).cells n).toList, ∃ x : Int, u = .int .u8 x := by
  intro u hu
  simp [Builtin.zeroCells, Value.cells, Nat.mod_one] at hu
  exact ⟨0, hu.2.symm⟩

/-- What growing leaves. -/
theorem own_new (w : World) (e : TypeId) (l m : List UInt8) (old : Nat) (v : Value) (hb : l.length + m.length ≤ 140737488355328) :
    Own (w.drew.alloc (.cells ((byC l).toArray ++ (byC m).toArray ++ Builtin.zeroCells (Value.int .u8 0).cells (grownCap w (l.length + m.length) old e - (l.length + m.length))) e)) e
        (.slice (some ⟨w.heap.size, 0, none⟩) (l.length + m.length) (grownCap w (l.length + m.length) old e)) (l ++ m) ∧
      Apd w (w.drew.alloc (.cells ((byC l).toArray ++ (byC m).toArray ++ Builtin.zeroCells (Value.int .u8 0).cells (grownCap w (l.length + m.length) old e - (l.length + m.length))) e)) v
        (.slice (some ⟨w.heap.size, 0, none⟩) (l.length + m.length) (grownCap w (l.length + m.length) old e)) := by
  have hge := grownCap_ge w (l.length + m.length) old e
  have hcm : grownCap w (l.length + m.length) old e ≤ maxLen := grownCap_le_maxLen w _ old e (by unfold maxLen; omega)
  refine ⟨Or.inr ⟨w.heap.size, _, _, by rw [List.length_append], heap_alloc_new w.drew _, by rw [List.length_append]; exact hge, hcm, ?_, ?_, ?_⟩, ⟨⟨rfl, rfl, rfl, by simp, fun k hk _ => Below.heap_alloc w.drew _ k hk⟩, Or.inr ⟨_, rfl, Nat.le_refl _⟩⟩⟩
  · have hz1 : (Value.int IntKind.u8 0).cells.size = 1 := rfl
    simp only [Array.size_append, List.size_toArray, size_zeroCells, hz1, byC_length]
    omega
  · simp only [Array.toList_append]
    rw [byC_append, ← List.length_append, ← byC_length (l ++ m), byC_append]
    exact List.take_left
  · intro u hu
    simp only [Array.toList_append, List.mem_append] at hu
    rcases hu with (hu | hu) | hu
    · exact byC_u8 l u hu
    · exact byC_u8 m u hu
    · exact zero_u8 _ u hu

/-- What stays in its room. -/
theorem own_room (w : World) (e : TypeId) (l m : List UInt8) (g cap : Nat) (cur : Array Value) (hg : w.heap[g]? = some (.cells cur e (0, 0))) (hcm : cap ≤ maxLen) (hcs : cur.size = cap) (ht : cur.toList.take l.length = byC l) (hall : ∀ u ∈ cur.toList, ∃ x : Int, u = .int .u8 x) (hroom : l.length + m.length ≤ cap) :
    Own (w.setRow g (cur.toList.take l.length ++ byC m ++ cur.toList.drop (l.length + m.length)).toArray) e (.slice (some ⟨g, 0, none⟩) (l.length + m.length) cap) (l ++ m) ∧
      Apd w (w.setRow g (cur.toList.take l.length ++ byC m ++ cur.toList.drop (l.length + m.length)).toArray) (.slice (some ⟨g, 0, none⟩) l.length cap) (.slice (some ⟨g, 0, none⟩) (l.length + m.length) cap) := by
  refine ⟨Or.inr ⟨g, cap, _, by rw [List.length_append], setRow_heap w g cur _ e _ hg, by rw [List.length_append]; exact hroom, hcm, ?_, ?_, ?_⟩, ⟨⟨rfl, rfl, rfl, by simp, fun k _ hk => setRow_other w g k _ (fun h => hk (by simp [Value.ownBlock, h]))⟩, Or.inl rfl⟩⟩
  · simp only [List.size_toArray, List.length_append, List.length_take, List.length_drop, Array.length_toList, byC_length]
    omega
  · rw [ht, byC_append, ← byC_length (l ++ m), byC_append]
    exact List.take_left
  · intro u hu
    simp only [List.mem_append] at hu
    rcases hu with (hu | hu) | hu
    · exact hall u (List.mem_of_mem_take hu)
    · exact byC_u8 m u hu
    · exact hall u (List.mem_of_mem_drop hu)

section
variable {P : Program} (w : World)

theorem Own.holds {e : TypeId} {g : Nat} {l : List UInt8} {cur : Array Value} (hg : w.heap[g]? = some (.cells cur e (0, 0))) (ht : cur.toList.take l.length = byC l) : ∀ j u, (byC l)[j]? = some u → w.cell? ((⟨g, 0, none⟩ : Addr).add j) = some u := by
  intro j u hu
  have hadd : (⟨g, 0, none⟩ : Addr).add j = ⟨g, j, none⟩ := by unfold Addr.add; split <;> simp_all
  rw [hadd, cell_of_row w g j cur e (0, 0) hg]
  rw [← ht, List.getElem?_take] at hu
  split at hu
  · simpa using hu
  · cases hu

theorem run_append_bytes (t ty e : TypeId) (i : TypeInfo) (ht : P.underlying t = some (.slice e)) (hi : P.info? e = some i) (hz : i.zero = some (.int .u8 0)) (hsize : i.size = 1) (hby : i.bytes = 1)
    (v : Value) (l : List UInt8) (hown : Own w e v l) (a : Addr) (m c : Nat) (news : List UInt8) (hm : news.length = m) (hm0 : 0 < m) (hnews : ∀ j u, (byC news)[j]? = some u → w.cell? (a.add j) = some u) (hb : l.length + news.length ≤ 140737488355328) :
    ∃ v' w', (Builtin.append_ #[t, t] ty #[v, .slice (some a) m c]).run P w = .ok v' w' ∧ Own w' e v' (l ++ news) ∧ Apd w w' v v' := by
  subst hm
  have hl : (byC news).length = news.length * i.size := by rw [byC_length, hsize, Nat.mul_one]
  rcases hown with ⟨rfl, rfl⟩ | ⟨g, cap, cur, rfl, hg, hlc, hcm, hcs, htk, hall⟩
  · have hr := run_append_nil (P := P) w t ty e i (.int .u8 0) ht hi hz a news.length c (byC news) hl hnews hm0 (by simp at hb; omega) (by rw [hby]; simp at hb; omega)
    have hn := own_new w e [] news 0 (.slice none 0 0) hb
    simp only [List.length_nil, Nat.zero_add, List.nil_append, byC, List.map_nil, Array.empty_append] at hn hr ⊢
    exact ⟨_, _, hr, hn.1, hn.2⟩
  · by_cases hroom : l.length + news.length ≤ cap
    · have hr := run_append_room (P := P) w t ty e i ht hi g l.length cap cur hg a news.length c (byC news) hl hnews (byC_one news) hroom (by rw [hsize, byC_length, hcs, Nat.mul_one]; exact hroom)
      rw [hsize, Nat.mul_one, byC_length] at hr
      have hn := own_room w e l news g cap cur hg hcm hcs htk hall hroom
      exact ⟨_, _, hr, hn.1, hn.2⟩
    · have hr := run_append_grow (P := P) w t ty e i (.int .u8 0) ht hi hz ⟨g, 0, none⟩ l.length cap (byC l) (by rw [byC_length, hsize, Nat.mul_one]) (Own.holds w hg htk) a news.length c (byC news) hl hnews (by omega) (by omega) (by rw [hby]; exact growslice_fits (by omega) (by omega))
      have hn := own_new w e l news cap (.slice (some ⟨g, 0, none⟩) l.length cap) hb
      exact ⟨_, _, hr, hn.1, hn.2⟩

theorem run_append_text (t u ty e : TypeId) (i : TypeInfo) (ht : P.underlying t = some (.slice e)) (hu : P.underlying u = some .string) (hi : P.info? e = some i) (hz : i.zero = some (.int .u8 0)) (hsize : i.size = 1) (hby : i.bytes = 1)
    (v : Value) (l : List UInt8) (hown : Own w e v l) (news : List UInt8) (hm0 : 0 < news.length) (hb : l.length + news.length ≤ 140737488355328) :
    ∃ v' w', (Builtin.append_ #[t, u] ty #[v, .string ⟨news.toArray⟩]).run P w = .ok v' w' ∧ Own w' e v' (l ++ news) ∧ Apd w w' v v' := by
  have hs : (⟨news.toArray⟩ : ByteArray).size = news.length := by simp [ByteArray.size]
  have hsc := strCells_byC news
  rcases hown with ⟨rfl, rfl⟩ | ⟨g, cap, cur, rfl, hg, hlc, hcm, hcs, htk, hall⟩
  · have hr := run_append_nil_string (P := P) w t u ty e i (.int .u8 0) ht hu hi hz ⟨news.toArray⟩ (by rw [hs]; exact hm0) (by rw [hs]; simp at hb; omega) (by rw [hs, hby]; simp at hb; omega)
    have hn := own_new w e [] news 0 (.slice none 0 0) hb
    have e1 : ((⟨news.toArray⟩ : ByteArray).data.map fun b => Value.int .u8 b.toNat) = (byC news).toArray := by
      apply Array.ext'
      simp [byC]
    rw [hs, e1] at hr
    simp only [List.length_nil, Nat.zero_add, List.nil_append, byC, List.map_nil, Array.empty_append] at hn hr ⊢
    exact ⟨_, _, hr, hn.1, hn.2⟩
  · by_cases hroom : l.length + news.length ≤ cap
    · have hr := Lib.run_append_room_string (P := P) w t u ty e i ht hu hi hsize g l.length cap cur hg ⟨news.toArray⟩ (by rw [hs]; exact hroom) (by rw [hs, hcs]; exact hroom)
      rw [hs, hsc] at hr
      have hn := own_room w e l news g cap cur hg hcm hcs htk hall hroom
      exact ⟨_, _, hr, hn.1, hn.2⟩
    · have hr := Lib.run_append_grow_string (P := P) w t u ty e i (.int .u8 0) ht hu hi hz ⟨g, 0, none⟩ l.length cap (byC l) (by rw [byC_length, hsize, Nat.mul_one]) (Own.holds w hg htk) ⟨news.toArray⟩ (by rw [hs]; omega) (by rw [hs]; omega) (by rw [hs, hby]; exact growslice_fits (by omega) (by omega))
      rw [hs, hsc] at hr
      have hn := own_new w e l news cap (.slice (some ⟨g, 0, none⟩) l.length cap) hb
      exact ⟨_, _, hr, hn.1, hn.2⟩

theorem wpList_append_bytes {ops : Array Oper} {rest : List Oper} {o : Oper} {a : Act} {Q : Exit → Act → World → Prop} (hgd : o.guard = none) (s x : Operand) (t : TypeId)
    (ho : o.op = .call { callee := .builtin .append, args := #[s, x], argTypes := #[t, t] })
    (e : TypeId) (i : TypeInfo) (ht : P.underlying t = some (.slice e)) (hi : P.info? e = some i) (hz : i.zero = some (.int .u8 0)) (hsize : i.size = 1) (hby : i.bytes = 1)
    (v : Value) (l : List UInt8) (hs : a.eval s = v) (hown : Own w e v l) (ad : Addr) (m c : Nat) (news : List UInt8) (hx : a.eval x = .slice (some ad) m c) (hm : news.length = m) (hm0 : 0 < m) (hnews : ∀ j u, (byC news)[j]? = some u → w.cell? (ad.add j) = some u) (hb : l.length + news.length ≤ 140737488355328)
    (h : ∀ v' w', Own w' e v' (l ++ news) → Apd w w' v v' → wpList P ops Q rest (a.put o.dst v') w') : wpList P ops Q (o :: rest) a w := by
  refine wpList_plain hgd fun _ hK => ?_
  obtain ⟨v', w', hr, h2, h3⟩ := run_append_bytes (P := P) w t o.type e i ht hi hz hsize hby v l hown ad m c news hm hm0 hnews hb
  unfold Oper.wp execOp
  simp only [ho, resolve, invoke, builtin, Sem.run_bind, Sem.run_pure, Result.andThen_ok, List.map_toArray, List.map_cons, List.map_nil, hs, hx, hr]
  exact hK _ _ (h v' w' h2 h3)

theorem wpList_append_text {ops : Array Oper} {rest : List Oper} {o : Oper} {a : Act} {Q : Exit → Act → World → Prop} (hgd : o.guard = none) (s x : Operand) (t u : TypeId)
    (ho : o.op = .call { callee := .builtin .append, args := #[s, x], argTypes := #[t, u] })
    (e : TypeId) (i : TypeInfo) (ht : P.underlying t = some (.slice e)) (hu : P.underlying u = some .string) (hi : P.info? e = some i) (hz : i.zero = some (.int .u8 0)) (hsize : i.size = 1) (hby : i.bytes = 1)
    (v : Value) (l : List UInt8) (hs : a.eval s = v) (hown : Own w e v l) (news : List UInt8) (hx : a.eval x = .string ⟨news.toArray⟩) (hm0 : 0 < news.length) (hb : l.length + news.length ≤ 140737488355328)
    (h : ∀ v' w', Own w' e v' (l ++ news) → Apd w w' v v' → wpList P ops Q rest (a.put o.dst v') w') : wpList P ops Q (o :: rest) a w := by
  refine wpList_plain hgd fun _ hK => ?_
  obtain ⟨v', w', hr, h2, h3⟩ := run_append_text (P := P) w t u o.type e i ht hu hi hz hsize hby v l hown news hm0 hb
  unfold Oper.wp execOp
  simp only [ho, resolve, invoke, builtin, Sem.run_bind, Sem.run_pure, Result.andThen_ok, List.map_toArray, List.map_cons, List.map_nil, hs, hx, hr]
  exact hK _ _ (h v' w' h2 h3)

end

end Go.Proofs.YtnemjllghpijgaaDoor
namespace Go.Proofs.YtnemjllghpijgaaDoor
open Go.RowKit Go.Sort

/-- The table of powers of ten stands. -/
abbrev Ten (w : World) : Prop := Lib.TabIs Tryd.prog w "internal/strconv.uint64pow10" .u64 Lib.pow10Tab

set_option maxHeartbeats 6400000 in
set_option maxRecDepth 100000 in
theorem formatUint_in (u : Nat) (hu64 : u < 18446744073709551616) (w : World) (htab : Ten w) :
    Calls Tryd.prog 91 #[.int .u64 u, .int .i64 10] w fun e w' => e = .returned (.string ⟨(Lib.decDigits u).toArray⟩) ∧ Ext w w' := by
  by_cases hs : u < 100
  · have iu : (u : Int) < 100 := by omega
    go_enter Tryd.func91, Tryd.ntmps91
    go_wp2_with (go_at_call 87; refine (Tryd.internal_strconv_small u hs _).mono ?_; rintro e w' ⟨rfl, rfl⟩)
    go_ret
    exact ⟨rfl, Ext.refl _⟩
  · have hu1 : 1 ≤ u := by omega
    have iu : (100 : Int) ≤ (u : Int) := by omega
    have hnd20 : Lib.nDigits u ≤ 20 := by have := Lib.numDigits_eq u hu1 hu64; split at this <;> omega
    have hal : Tryd.prog.arrayLen 105 = 24 := by simp [Program.arrayLen, Tryd.underlying105]
    have hsl : ∀ W, (Instr.sliceAt 105 (.pointer (some ⟨w.heap.size, 0, none⟩)) none (some (.int .i64 (Lib.nDigits u : Int))) none).run Tryd.prog W = .ok (.slice (some ⟨w.heap.size, 0, none⟩) (Lib.nDigits u) 24) W := fun W => by
      rw [run_sliceAt_array_h W 105 ⟨w.heap.size, 0, none⟩ (by simp [Program.arrayLen, Program.elem, Tryd.underlying105]) .i64 (Lib.nDigits u : Int) (by omega) (by rw [hal]; omega)]
      go_simp
    have hH0 := Lib.holds_zero0 w 105 (Lib.nDigits u) (by omega)
    have hfmt := Tryd.internal_strconv_formatBase10 w.heap.size 0 24 u (Array.replicate (Lib.nDigits u) 0) (w.alloc (.cells Lib.zeros24 105)) hH0 (by rw [Array.size_replicate]; exact Lib.lt_pow_nDigits u) hu64 (by rw [Array.size_replicate]; omega)
    rw [Array.size_replicate] at hfmt
    have HH0 := hid hH0
    clear hH0 hal
    go_enter Tryd.func91, Tryd.ntmps91
    go_wp2_with (first
      | (go_at_call 88; refine (Tryd.internal_strconv_numDigits u hu1 hu64 _ (Lib.tabIs_alloc htab _)).mono ?_; rintro e w' ⟨rfl, rfl⟩))
    go_at_call 89
    refine hfmt.mono ?_
    rintro e w' ⟨rfl, k, v', dk, rfl, hF⟩
    have hcv : (convert 63 9 (.slice (some ⟨w.heap.size, 0, none⟩) (Lib.nDigits u) 24)).run Tryd.prog ((putRow (fun (b : UInt8) => Value.int .u8 (b.toNat : Int)) (w.alloc (.cells Lib.zeros24 105)) w.heap.size 0 dk).drewN k) = .ok (.string ⟨(Lib.decDigits u).toArray⟩) ((putRow (fun (b : UInt8) => Value.int .u8 (b.toNat : Int)) (w.alloc (.cells Lib.zeros24 105)) w.heap.size 0 dk).drewN k) := by
      have h := run_convert_bytes_back (P := Tryd.prog) ((putRow (fun (b : UInt8) => Value.int .u8 (b.toNat : Int)) (w.alloc (.cells Lib.zeros24 105)) w.heap.size 0 dk).drewN k) 63 9 5 ⟨w.heap.size, 0, none⟩ 24 (Lib.decDigits u) Tryd.underlying63 Tryd.underlying5 Tryd.underlying9 (fun j hj => by
        rw [Lib.row_is_numeral hF j hj, Lib.add_plain, World.cell?_drewN]
        exact cell?_putRow (fun (b : UInt8) => Value.int .u8 (b.toNat : Int)) _ w.heap.size 0 _ dk HH0.out (by rw [hF.size, Array.size_replicate]) j (by rw [hF.size]; rw [Lib.decDigits_length] at hj; exact hj))
      rw [Lib.decDigits_length] at h
      exact h
    go_wp2
    go_ret
    obtain ⟨os, eo⟩ := Lib.fin_at w (.cells Lib.zeros24 105) dk k 0
    refine ⟨rfl, ?_⟩
    show Ext w ((putRow _ _ _ _ _).drewN k)
    rw [eo]
    exact Lib.below_grow _ w (Nat.le_refl _) k os

set_option maxHeartbeats 400000 in
theorem formatUint_any (u : Nat) (hu64 : u < 18446744073709551616) (w : World) (htab : Ten w) :
    Calls Tryd.prog 74 #[.int .u64 u, .int .i64 10] w fun e w' => e = .returned (.string ⟨(Lib.decDigits u).toArray⟩) ∧ Ext w w' := by
  go_enter Tryd.func74, Tryd.ntmps74
  go_wp2_with fail
  refine (formatUint_in u hu64 w htab).mono ?_
  rintro e w' ⟨rfl, he⟩
  go_wp2_with fail
  go_ret
  exact ⟨rfl, he⟩

set_option maxHeartbeats 400000 in
theorem itoa_any (n : Int) (h0 : -9223372036854775808 ≤ n) (h1 : n ≤ 9223372036854775807) (w : World) (htab : Ten w) :
    Calls Tryd.prog 34 #[.int .i64 n] w fun e w' => e = .returned (.string ⟨(Lib.itoa n).toArray⟩) ∧ Ext w w' := by
  refine (Tryd.strconv_Itoa n h0 h1 w htab).mono ?_
  rintro e w' ⟨rfl, k, os, rfl⟩
  exact ⟨rfl, Lib.below_grow _ w (Nat.le_refl _) k os⟩

end Go.Proofs.YtnemjllghpijgaaDoor
