/-
  halve: over a power of two, rounded down. Gcd. Numbers side by side in one block: the row of eight of a sum, the nine of a number of circuits. A row's small questions: zero. A region that draws its order and ends in stores: what it loads is held until the first store comes up. A row grows: add. A row grows by a product: addProduct. How often 2 divides a whole row: twos.
-/
import Derived.Test.YtfjnlopbmkimiaaGreatDoorProg
import Derived.Test.YtfjnlopbmkimiaaGreatDoorRows
import Derived.BigQuiet
import Derived.Deep.Cut
import Derived.Deep.CutRange
import Derived.Deep.QuietTactic
import Derived.Deep.RegionHeld3
import Derived.Ground.Names2Prog
import Derived.Laws.Bits64b
import Derived.Laws.CopyOwn
import Derived.Laws.ResultCell
import Derived.Lib.BitFns
import Derived.Lib.ItoaNum
import Derived.Lib.Strings
import Derived.Lib.TrailingZeros
import Derived.Shelf.Bits.Mul64
import Derived.Shelf.LaysM
import Derived.Shelf.Slices.SearchI
import Derived.Shelf.Small.Bits
import Derived.Shelf.Small.Wraps
import Derived.Shelf.Spec.BitsCarry
import Derived.Shelf.Spec.TrailingZeros
import Derived.Shelf.Strconv.Itoa0
import Derived.Shelf.Strconv.Itoa1
import Derived.Shelf.Strconv.Itoa2
import Derived.Shelf.Strconv.Itoa3
import Derived.Shelf.Strings.Builder1
import Derived.Shelf.Strings.BuilderF
import Derived.Shelf.Strings.BuilderK
import Derived.WalkKit
import Derived.WalkLawsBesides
import Derived.WalkSpells
import Derived.Test.YtfjnlopbmkimiaaGreatDoorS00Mem
import Derived.Test.YtfjnlopbmkimiaaGreatDoorShelf
import Derived.Test.YtfjnlopbmkimiaaGreatDoorS02ShiftI
import Derived.Test.YtfjnlopbmkimiaaGreatDoorS03GuessD
import Derived.Test.YtfjnlopbmkimiaaGreatDoorS04IntB
import Derived.Test.YtfjnlopbmkimiaaGreatDoorS05IntD
import Derived.Test.YtfjnlopbmkimiaaGreatDoorS06GcB
namespace Go.Proofs.YtfjnlopbmkimiaaGreatDoor
open Go.RowKit

/-- A number that a call has put into a variable of its own. -/
structure OutAt (W0 W : World) (g : Nat) (s : Int) (a : Option Addr) (n c : Nat) (z : Int) : Prop where
  ext : Ext W0 W
  lt : g < W.heap.size
  ge : W0.heap.size ≤ g
  o0 : W.cell? ⟨g, 0, none⟩ = some (.int .i64 s)
  o1 : W.cell? ⟨g, 1, none⟩ = some (.slice a n c)
  int : IsInt W s a n c z

theorem outLate {W0 w4 : World} {s : Int} {a : Option Addr} {n c : Nat} {z : Int} (he : Ext W0 w4) (hI : IsInt w4 s a n c z) : OutAt W0 (w4.alloc (.cells #[.int .i64 s, .slice a n c] 74)) w4.heap.size s a n c z :=
  ⟨he.then _, by simp, he.size, by simp, by simp, hI.ext (Ext.alloc _ _)⟩
theorem outEarly {W0 w4 : World} {g : Nat} {s : Int} {a : Option Addr} {n c : Nat} {z : Int} (he : Ext W0 w4) (hI : IsInt w4 s a n c z) (hg : W0.heap.size ≤ g) (hR : Res w4 g) : OutAt W0 ((w4.setCell ⟨g, 0, none⟩ (.int .i64 s)).setCell ⟨g, 1, none⟩ (.slice a n c)) g s a n c z := by
  have k0 := hR.c0; have k1 := hR.c1
  refine ⟨he.put2 hg _ _, by simp [World.setCell]; exact hR.lt, hg, ?_, ?_, hI.keep64 (Keep64.set2 (.i64 k0) (.slice k1) (notW_i64 _) _)⟩
  · rw [World.cell?_setCell_other _ _ _ _ (by simp), World.cell?_setCell_same _ _ _ k0]
  · refine World.cell?_setCell_same _ _ _ (u := .slice none 0 0) ?_
    rw [World.cell?_setCell_other _ _ _ _ (by simp)]; exact k1
theorem res_new (w : World) : Res (w.alloc (.cells #[.int .i64 0, .slice none 0 0] 74)) w.heap.size := ⟨by simp, heap_alloc_new w _⟩

theorem res_newd (w : World) : Res (w.alloc (.cells #[.int .i64 0, .slice none 0 0] 74)).drew w.heap.size := (res_new w).ext (Below.drew (Ext.refl _))

theorem sgn_div (b : Bool) (v k : Nat) (t : Nat) (h : Tw v t) : sgn b v / 2 ^ k = if b = true ∧ t < k then sgn b (v / 2 ^ k) - 1 else sgn b (v / 2 ^ k) := by
  have hp : 0 < 2 ^ k := Nat.pow_pos (by decide)
  have hd := h.dvd k
  cases b
  · simp [sgn]
  · have := neg_div v (2 ^ k) hp
    simp only [sgn, if_true]
    have e : ((2 ^ k : Nat) : Int) = 2 ^ k := by simp
    rw [e] at this
    rw [this]
    by_cases hk : t < k
    · rw [if_neg (fun h0 => by have := hd.1 h0; omega), if_pos ⟨trivial, hk⟩]
    · rw [if_pos (hd.2 (by omega)), if_neg (fun h0 => hk h0.2)]

set_option maxHeartbeats 1600000 in
set_option maxRecDepth 100000 in
theorem halve_any (sm : Int) (ao : Option Addr) (n c : Nat) (z : Int) (k : Nat) (w : World) (h : IsInt w sm ao n c z) (hk : k ≤ 1073741824) (K : Nat) (hK : K ≤ 4194304) (hK1 : 1 ≤ K) (hf : Fit K z) (hbr : Bru w) :
    Calls Tryz.prog 166 #[.agg #[.int .i64 sm, .slice ao n c], .int .u64 k] w fun e w' => ∃ (s' : Int) (a' : Option Addr) (n' c' : Nat), e = .returned (.agg #[.int .i64 s', .slice a' n' c']) ∧ IsInt w' s' a' n' c' (z / 2 ^ k) ∧ Ext w w' := by
  have q1 := eql_nil ao n c 0 0
  have hzb := h.bool
  have hnK := h.len hf
  rcases h with ⟨rfl, rfl, rfl, rfl, r1, r2⟩ | ⟨b, o, l, rfl, hl, hnc, hcm, hs, hd, hr, hz⟩
  · obtain ⟨q, hq⟩ : ∃ q, sm / 2 ^ min k 64 = q := ⟨_, rfl⟩
    have hqr : -9223372036854775808 ≤ q ∧ q ≤ 9223372036854775807 := by
      have hp : (0 : Int) < 2 ^ min k 64 := Int.pow_pos (by decide)
      rw [← hq]
      constructor
      · by_cases hneg : sm < 0
        · have h3 : sm ≤ sm / 2 ^ min k 64 := by
            generalize (2 : Int) ^ min k 64 = p at *
            exact (Int.le_ediv_iff_mul_le hp).2 (by have : sm * p ≤ sm * 1 := Int.mul_le_mul_of_nonpos_left (by omega) (by omega); omega)
          omega
        · have := Int.ediv_nonneg (a := sm) (b := 2 ^ min k 64) (by omega) (by omega); omega
      · have h4 : sm / 2 ^ min k 64 ≤ (if sm < 0 then 0 else sm) := by
          split
          · exact Int.le_of_lt (Int.ediv_neg_of_neg_of_pos (by assumption) hp)
          · exact Int.ediv_le_self _ (by omega)
        split at h4 <;> omega
    have hfin := shr_small sm k r1 r2
    rw [hq] at hfin
    rw [← hfin]
    have hno : (none : Option Addr).isNone = true := rfl
    clear hf hzb hfin hbr r1 r2
    go_enter Tryz.func166, Tryz.ntmps166
    go_wp2
    exact bodyPost_ret (v := .agg #[.int .i64 q, .slice none 0 0]) (by simp [results, Tryz.results166, go_sem]) rfl ⟨q, none, 0, 0, rfl, IsInt.small _ _ hqr.1 hqr.2, (Ext.alloc _ _).then _⟩
  · have hno : (some (⟨b, o, none⟩ : Addr)).isNone = false := rfl
    have HI : Hid (IsInt w sm (some ⟨b, o, none⟩) n c z) := Or.inr ⟨b, o, l, rfl, hl, hnc, hcm, hs, hd, hr, hz⟩
    have Hzv : Hid (z.natAbs = val l) := by show _ = _; rcases hz with ⟨_, h, _⟩ | ⟨_, h, _⟩ <;> omega
    have Hz0 : Hid (z ≠ 0) := by show _ ≠ _; rcases hz with ⟨_, h, _⟩ | ⟨_, h, _⟩ <;> omega
    obtain ⟨bb, hbb⟩ : ∃ bb, decide (sm < 0) = bb := ⟨_, rfl⟩
    rw [hbb] at hzb
    have Hzb := hid hzb; have Hbb := hid hbb; have Hl := hid hl; have Hs := hid hs; have Hd := hid hd; have Hf := hid hf; have Hbr := hid hbr
    clear hz hl hs hd hr hzb hbb hf hbr
    go_enter Tryz.func166, Tryz.ntmps166
    go_wp2_with fail
    have hbx := boxes1 w (.int .i64 sm) (.slice (some ⟨b, o, none⟩) n c)
    generalize (w.alloc (.cells #[.int .i64 sm, .slice (some ⟨b, o, none⟩) n c] 74)).alloc (.cells #[.int .i64 0, .slice none 0 0] 74) = W0 at *
    have hB : w.heap.size < W0.heap.size := by have := hbx.size; omega
    have hnn := negative_from (w := W0) sm (.slice (some ⟨b, o, none⟩) n c)
    rw [Hbb.out] at hnn
    have Hn := hid hnn; have Hsd := hid (shiftDown_from (w := W0) k hk); have Hfw := hid (fromWords_from (w := W0) bb)
    have Hs0 := hid (Hs.out.ext hbx.ext)
    have hE0d : Ext W0 W0.drew := Below.drew (Ext.refl _)
    have c0 := hbx.c0; have c1 := hbx.c1
    clear hnn
    have z0 := hE0d.size
    have hE00 : Ext W0 W0 := Ext.refl _
    go_region_held3 (fun w' => w'.cell? ⟨w.heap.size, 0, none⟩ = some (.int .i64 sm) ∧ w'.cell? ⟨w.heap.size, 1, none⟩ = some (.slice (some ⟨b, o, none⟩) n c))
      (refine ⟨?_, ?_⟩ <;> (repeat (refine cellPut (by omega) ?_)) <;> (first | exact cellKeep (W := W0) (by assumption) (by omega) (by assumption) | exact cellKeep (W := W0) (Ext.then (by assumption) _) (by omega) (by assumption)))
      (first | (go_at_call 95; (first | (refine (Hn.out _ (by assumption)).mono ?_; rintro e w1 ⟨rfl, he1, hx1⟩; have z1 := he1.size) | (refine (Hn.out _ (Ext.then (by assumption) _)).mono ?_; rintro e w1 ⟨rfl, he1, hx1⟩; have z1 := he1.size; have hRg := (res_new _).ext hx1) | (refine (Hn.out _ (Below.drew (Ext.then (by assumption) _))).mono ?_; rintro e w1 ⟨rfl, he1, hx1⟩; have z1 := he1.size; have hRg := (res_newd _).ext hx1))) | (go_at_call 181; (first | (refine (Hsd.out _ (some ⟨b, o, none⟩) l n c (by assumption) Hl.out (Hs0.out.ext (by assumption)) Hd.out hnc hcm (by omega)).mono ?_; rintro e w3 ⟨a3, l3, n3, c3, rfl, hl3, hn3, hc3, hs3, hd3, hm3, Hv3, he3, hx3⟩; have Hl3 := hid hl3; clear hl3; have z3 := he3.size; try have hRg := hRg.ext hx3) | (refine (Hsd.out _ (some ⟨b, o, none⟩) l n c (Ext.then (by assumption) _) Hl.out (Hs0.out.ext (Ext.then (by assumption) _)) Hd.out hnc hcm (by omega)).mono ?_; rintro e w3 ⟨a3, l3, n3, c3, rfl, hl3, hn3, hc3, hs3, hd3, hm3, Hv3, he3, hx3⟩; have Hl3 := hid hl3; clear hl3; have z3 := he3.size; have hRg := (res_new _).ext hx3))) | (go_at_call 149; (first | (refine (Hfw.out _ a3 l3 n3 c3 (by assumption) Hl3.out hs3 hd3 hn3 hc3).mono ?_; rintro e w4 ⟨s4, a4, n4, c4, rfl, hI4, he4, hx4⟩; have z4 := he4.size; try (have hRg := hRg.ext hx4; have k0 := hRg.c0; have k1 := hRg.c1; have g0 := hRg.f0; have g1 := hRg.f1)) | (refine (Hfw.out _ a3 l3 n3 c3 (Ext.then (by assumption) _) Hl3.out (hs3.ext (Ext.alloc _ _)) hd3 hn3 hc3).mono ?_; rintro e w4 ⟨s4, a4, n4, c4, rfl, hI4, he4, hx4⟩; have z4 := he4.size; have hRg := (res_new _).ext hx4; have k0 := hRg.c0; have k1 := hRg.c1; have g0 := hRg.f0; have g1 := hRg.f1))))
    · go_wp2_with fail
      have hO := outLate he4 hI4
      have HO := hid hO
      have Hval : Hid (∀ t, Tw z.natAbs t → z / 2 ^ k = if bb = true ∧ t < k then sgn bb (val l3) - 1 else sgn bb (val l3)) := by
        intro t ht
        rw [Hv3.out, ← Hzv.out, ← sgn_div bb z.natAbs k t ht, ← Hzb.out]
      have Hf4 : Hid (Fit K (sgn bb (val l3))) := by
        refine Hf.out.le ?_
        have e : (sgn bb (val l3)).natAbs = val l3 := by cases bb <;> simp [sgn]
        rw [e, Hv3.out, Hzv.out]
        exact Nat.div_le_self _ _
      refine (Hn.out _ hO.ext).mono ?_
      rintro e w6 ⟨rfl, he6, hx6⟩
      have o0 := cellKeep hx6 HO.out.lt HO.out.o0; have o1 := cellKeep hx6 HO.out.lt HO.out.o1
      have I6 := HO.out.int.ext hx6
      have ho6 := HO.out.ge
      have hlt6 := Nat.lt_of_lt_of_le HO.out.lt hx6.size
      have ho7 : W0.heap.size ≤ w6.heap.size := he6.size
      have y0 := cellKeep he6 hB c0; have y1 := cellKeep he6 hB c1
      have hr6 := hbx.res.ext he6
      have HE6 : Hid (Ext w w6) := hbx.ext.trans he6
      have hsz : w.heap.size + 1 < W0.heap.size := by have := hbx.size; omega
      clear hO
      cases bb
      case false =>
        have k0' := hr6.c0; have k1' := hr6.c1; have g0' := hr6.f0; have g1' := hr6.f1
        go_wp2_with fail
        have Hc : sgn false (val l3) = z / 2 ^ k := by rw [Hzb.out, Hv3.out, ← Hzv.out]; simp [sgn]
        exact bodyPost_ret (v := .agg #[.int .i64 s4, .slice a4 n4 c4]) (by simp [results, Tryz.results166, go_sem, k0', k1']) rfl ⟨s4, a4, n4, c4, rfl, (I6.cast Hc).keep64 (Keep64.set2 (.i64 k0') (.slice k1') (notW_i64 _) _), HE6.out.put2 (by omega) _ _⟩
      case true =>
        go_wp2_with fail
        refine (Twos_any sm (some ⟨b, o, none⟩) n c z w6 (HI.out.ext HE6.out) (by omega) (bru_ext Hbr.out HE6.out)).mono ?_
        rintro e w7 ⟨t, rfl, ht1, ht0, ht2, hx7⟩
        have Ht1 := hid (ht1 Hz0.out)
        have o0' := cellKeep hx7 hlt6 o0; have o1' := cellKeep hx7 hlt6 o1
        have I7 := I6.ext hx7
        have hr7 := hr6.ext hx7
        have z7 := hx7.size
        have HE7 : Hid (Ext w w7) := HE6.out.trans hx7
        clear ht1 ht0 o0 o1 y0 y1
        by_cases htk : t < k
        · have itk : (t : Int) < (k : Int) := by omega
          have Hfin := Hval.out t Ht1.out
          rw [if_pos ⟨by simp, htk⟩] at Hfin
          have HFin := hid Hfin
          have Ho := hid (Of_from (w := w7) 1 (by omega) (by omega)); have Hsub := hid (Sub_from I7 K hK Hf4.out)
          have h7d : Ext w7 w7.drew := Below.drew (Ext.refl _)
          clear Hfin
          go_wp2_with fail
          go_region_held3 (fun w' => w'.cell? ⟨w4.heap.size, 0, none⟩ = some (.int .i64 s4) ∧ w'.cell? ⟨w4.heap.size, 1, none⟩ = some (.slice a4 n4 c4))
            (refine ⟨?_, ?_⟩ <;> (repeat (refine cellPut (by omega) ?_)) <;> exact cellKeep (W := w7) (by assumption) (by omega) (by assumption))
            (first | (go_at_call 130; refine (Ho.out _ (by assumption)).mono ?_; rintro e wa ⟨rfl, hea, hxa⟩) | (go_at_call 86; refine (Hsub.out _ 1 none 0 0 1 (by assumption) (IsInt.small _ _ (by omega) (by omega)) (Fit.one hK1)).mono ?_; rintro e wb ⟨s8, a8, n8, c8, rfl, hI8, heb, hxb⟩; have hr8 := hr7.ext heb; have k0' := hr8.c0; have k1' := hr8.c1; have g0' := hr8.f0; have g1' := hr8.f1))
          go_wp2_with fail
          exact bodyPost_ret (v := .agg #[.int .i64 s8, .slice a8 n8 c8]) (by simp [results, Tryz.results166, go_sem, k0', k1']) rfl ⟨s8, a8, n8, c8, rfl, (hI8.cast HFin.out.symm).keep64 (Keep64.set2 (.i64 k0') (.slice k1') (notW_i64 _) _), (HE7.out.trans heb).put2 (by omega) _ _⟩
        · have itk : ¬ (t : Int) < (k : Int) := by omega
          have Hfin := Hval.out t Ht1.out
          rw [if_neg (fun h => htk h.2)] at Hfin
          have k0' := hr7.c0; have k1' := hr7.c1; have g0' := hr7.f0; have g1' := hr7.f1
          have HFin := hid Hfin
          clear Hfin
          go_wp2_with fail
          exact bodyPost_ret (v := .agg #[.int .i64 s4, .slice a4 n4 c4]) (by simp [results, Tryz.results166, go_sem, k0', k1']) rfl ⟨s4, a4, n4, c4, rfl, (I7.cast HFin.out.symm).keep64 (Keep64.set2 (.i64 k0') (.slice k1') (notW_i64 _) _), HE7.out.put2 (by omega) _ _⟩
    · go_wp2_with fail
      have hO := outEarly he4 hI4 (by omega) hRg
      have HO := hid hO
      have Hval : Hid (∀ t, Tw z.natAbs t → z / 2 ^ k = if bb = true ∧ t < k then sgn bb (val l3) - 1 else sgn bb (val l3)) := by
        intro t ht
        rw [Hv3.out, ← Hzv.out, ← sgn_div bb z.natAbs k t ht, ← Hzb.out]
      have Hf4 : Hid (Fit K (sgn bb (val l3))) := by
        refine Hf.out.le ?_
        have e : (sgn bb (val l3)).natAbs = val l3 := by cases bb <;> simp [sgn]
        rw [e, Hv3.out, Hzv.out]
        exact Nat.div_le_self _ _
      refine (Hn.out _ hO.ext).mono ?_
      rintro e w6 ⟨rfl, he6, hx6⟩
      have o0 := cellKeep hx6 HO.out.lt HO.out.o0; have o1 := cellKeep hx6 HO.out.lt HO.out.o1
      have I6 := HO.out.int.ext hx6
      have ho6 := HO.out.ge
      have hlt6 := Nat.lt_of_lt_of_le HO.out.lt hx6.size
      have ho7 : W0.heap.size ≤ w6.heap.size := he6.size
      have y0 := cellKeep he6 hB c0; have y1 := cellKeep he6 hB c1
      have hr6 := hbx.res.ext he6
      have HE6 : Hid (Ext w w6) := hbx.ext.trans he6
      have hsz : w.heap.size + 1 < W0.heap.size := by have := hbx.size; omega
      clear hO
      cases bb
      case false =>
        have k0' := hr6.c0; have k1' := hr6.c1; have g0' := hr6.f0; have g1' := hr6.f1
        go_wp2_with fail
        have Hc : sgn false (val l3) = z / 2 ^ k := by rw [Hzb.out, Hv3.out, ← Hzv.out]; simp [sgn]
        exact bodyPost_ret (v := .agg #[.int .i64 s4, .slice a4 n4 c4]) (by simp [results, Tryz.results166, go_sem, k0', k1']) rfl ⟨s4, a4, n4, c4, rfl, (I6.cast Hc).keep64 (Keep64.set2 (.i64 k0') (.slice k1') (notW_i64 _) _), HE6.out.put2 (by omega) _ _⟩
      case true =>
        go_wp2_with fail
        refine (Twos_any sm (some ⟨b, o, none⟩) n c z w6 (HI.out.ext HE6.out) (by omega) (bru_ext Hbr.out HE6.out)).mono ?_
        rintro e w7 ⟨t, rfl, ht1, ht0, ht2, hx7⟩
        have Ht1 := hid (ht1 Hz0.out)
        have o0' := cellKeep hx7 hlt6 o0; have o1' := cellKeep hx7 hlt6 o1
        have I7 := I6.ext hx7
        have hr7 := hr6.ext hx7
        have z7 := hx7.size
        have HE7 : Hid (Ext w w7) := HE6.out.trans hx7
        clear ht1 ht0 o0 o1 y0 y1
        by_cases htk : t < k
        · have itk : (t : Int) < (k : Int) := by omega
          have Hfin := Hval.out t Ht1.out
          rw [if_pos ⟨by simp, htk⟩] at Hfin
          have HFin := hid Hfin
          have Ho := hid (Of_from (w := w7) 1 (by omega) (by omega)); have Hsub := hid (Sub_from I7 K hK Hf4.out)
          have h7d : Ext w7 w7.drew := Below.drew (Ext.refl _)
          clear Hfin
          go_wp2_with fail
          go_region_held3 (fun w' => w'.cell? ⟨w3.heap.size, 0, none⟩ = some (.int .i64 s4) ∧ w'.cell? ⟨w3.heap.size, 1, none⟩ = some (.slice a4 n4 c4))
            (refine ⟨?_, ?_⟩ <;> (repeat (refine cellPut (by omega) ?_)) <;> exact cellKeep (W := w7) (by assumption) (by omega) (by assumption))
            (first | (go_at_call 130; refine (Ho.out _ (by assumption)).mono ?_; rintro e wa ⟨rfl, hea, hxa⟩) | (go_at_call 86; refine (Hsub.out _ 1 none 0 0 1 (by assumption) (IsInt.small _ _ (by omega) (by omega)) (Fit.one hK1)).mono ?_; rintro e wb ⟨s8, a8, n8, c8, rfl, hI8, heb, hxb⟩; have hr8 := hr7.ext heb; have k0' := hr8.c0; have k1' := hr8.c1; have g0' := hr8.f0; have g1' := hr8.f1))
          go_wp2_with fail
          exact bodyPost_ret (v := .agg #[.int .i64 s8, .slice a8 n8 c8]) (by simp [results, Tryz.results166, go_sem, k0', k1']) rfl ⟨s8, a8, n8, c8, rfl, (hI8.cast HFin.out.symm).keep64 (Keep64.set2 (.i64 k0') (.slice k1') (notW_i64 _) _), (HE7.out.trans heb).put2 (by omega) _ _⟩
        · have itk : ¬ (t : Int) < (k : Int) := by omega
          have Hfin := Hval.out t Ht1.out
          rw [if_neg (fun h => htk h.2)] at Hfin
          have k0' := hr7.c0; have k1' := hr7.c1; have g0' := hr7.f0; have g1' := hr7.f1
          have HFin := hid Hfin
          clear Hfin
          go_wp2_with fail
          exact bodyPost_ret (v := .agg #[.int .i64 s4, .slice a4 n4 c4]) (by simp [results, Tryz.results166, go_sem, k0', k1']) rfl ⟨s4, a4, n4, c4, rfl, (I7.cast HFin.out.symm).keep64 (Keep64.set2 (.i64 k0') (.slice k1') (notW_i64 _) _), HE7.out.put2 (by omega) _ _⟩
    · go_wp2_with fail
      have hO := outEarly he4 hI4 (by omega) hRg
      have HO := hid hO
      have Hval : Hid (∀ t, Tw z.natAbs t → z / 2 ^ k = if bb = true ∧ t < k then sgn bb (val l3) - 1 else sgn bb (val l3)) := by
        intro t ht
        rw [Hv3.out, ← Hzv.out, ← sgn_div bb z.natAbs k t ht, ← Hzb.out]
      have Hf4 : Hid (Fit K (sgn bb (val l3))) := by
        refine Hf.out.le ?_
        have e : (sgn bb (val l3)).natAbs = val l3 := by cases bb <;> simp [sgn]
        rw [e, Hv3.out, Hzv.out]
        exact Nat.div_le_self _ _
      refine (Hn.out _ hO.ext).mono ?_
      rintro e w6 ⟨rfl, he6, hx6⟩
      have o0 := cellKeep hx6 HO.out.lt HO.out.o0; have o1 := cellKeep hx6 HO.out.lt HO.out.o1
      have I6 := HO.out.int.ext hx6
      have ho6 := HO.out.ge
      have hlt6 := Nat.lt_of_lt_of_le HO.out.lt hx6.size
      have ho7 : W0.heap.size ≤ w6.heap.size := he6.size
      have y0 := cellKeep he6 hB c0; have y1 := cellKeep he6 hB c1
      have hr6 := hbx.res.ext he6
      have HE6 : Hid (Ext w w6) := hbx.ext.trans he6
      have hsz : w.heap.size + 1 < W0.heap.size := by have := hbx.size; omega
      clear hO
      cases bb
      case false =>
        have k0' := hr6.c0; have k1' := hr6.c1; have g0' := hr6.f0; have g1' := hr6.f1
        go_wp2_with fail
        have Hc : sgn false (val l3) = z / 2 ^ k := by rw [Hzb.out, Hv3.out, ← Hzv.out]; simp [sgn]
        exact bodyPost_ret (v := .agg #[.int .i64 s4, .slice a4 n4 c4]) (by simp [results, Tryz.results166, go_sem, k0', k1']) rfl ⟨s4, a4, n4, c4, rfl, (I6.cast Hc).keep64 (Keep64.set2 (.i64 k0') (.slice k1') (notW_i64 _) _), HE6.out.put2 (by omega) _ _⟩
      case true =>
        go_wp2_with fail
        refine (Twos_any sm (some ⟨b, o, none⟩) n c z w6 (HI.out.ext HE6.out) (by omega) (bru_ext Hbr.out HE6.out)).mono ?_
        rintro e w7 ⟨t, rfl, ht1, ht0, ht2, hx7⟩
        have Ht1 := hid (ht1 Hz0.out)
        have o0' := cellKeep hx7 hlt6 o0; have o1' := cellKeep hx7 hlt6 o1
        have I7 := I6.ext hx7
        have hr7 := hr6.ext hx7
        have z7 := hx7.size
        have HE7 : Hid (Ext w w7) := HE6.out.trans hx7
        clear ht1 ht0 o0 o1 y0 y1
        by_cases htk : t < k
        · have itk : (t : Int) < (k : Int) := by omega
          have Hfin := Hval.out t Ht1.out
          rw [if_pos ⟨by simp, htk⟩] at Hfin
          have HFin := hid Hfin
          have Ho := hid (Of_from (w := w7) 1 (by omega) (by omega)); have Hsub := hid (Sub_from I7 K hK Hf4.out)
          have h7d : Ext w7 w7.drew := Below.drew (Ext.refl _)
          clear Hfin
          go_wp2_with fail
          go_region_held3 (fun w' => w'.cell? ⟨w1.heap.size, 0, none⟩ = some (.int .i64 s4) ∧ w'.cell? ⟨w1.heap.size, 1, none⟩ = some (.slice a4 n4 c4))
            (refine ⟨?_, ?_⟩ <;> (repeat (refine cellPut (by omega) ?_)) <;> exact cellKeep (W := w7) (by assumption) (by omega) (by assumption))
            (first | (go_at_call 130; refine (Ho.out _ (by assumption)).mono ?_; rintro e wa ⟨rfl, hea, hxa⟩) | (go_at_call 86; refine (Hsub.out _ 1 none 0 0 1 (by assumption) (IsInt.small _ _ (by omega) (by omega)) (Fit.one hK1)).mono ?_; rintro e wb ⟨s8, a8, n8, c8, rfl, hI8, heb, hxb⟩; have hr8 := hr7.ext heb; have k0' := hr8.c0; have k1' := hr8.c1; have g0' := hr8.f0; have g1' := hr8.f1))
          go_wp2_with fail
          exact bodyPost_ret (v := .agg #[.int .i64 s8, .slice a8 n8 c8]) (by simp [results, Tryz.results166, go_sem, k0', k1']) rfl ⟨s8, a8, n8, c8, rfl, (hI8.cast HFin.out.symm).keep64 (Keep64.set2 (.i64 k0') (.slice k1') (notW_i64 _) _), (HE7.out.trans heb).put2 (by omega) _ _⟩
        · have itk : ¬ (t : Int) < (k : Int) := by omega
          have Hfin := Hval.out t Ht1.out
          rw [if_neg (fun h => htk h.2)] at Hfin
          have k0' := hr7.c0; have k1' := hr7.c1; have g0' := hr7.f0; have g1' := hr7.f1
          have HFin := hid Hfin
          clear Hfin
          go_wp2_with fail
          exact bodyPost_ret (v := .agg #[.int .i64 s4, .slice a4 n4 c4]) (by simp [results, Tryz.results166, go_sem, k0', k1']) rfl ⟨s4, a4, n4, c4, rfl, (I7.cast HFin.out.symm).keep64 (Keep64.set2 (.i64 k0') (.slice k1') (notW_i64 _) _), HE7.out.put2 (by omega) _ _⟩
    · go_wp2_with fail
      have hO := outEarly he4 hI4 (by omega) hRg
      have HO := hid hO
      have Hval : Hid (∀ t, Tw z.natAbs t → z / 2 ^ k = if bb = true ∧ t < k then sgn bb (val l3) - 1 else sgn bb (val l3)) := by
        intro t ht
        rw [Hv3.out, ← Hzv.out, ← sgn_div bb z.natAbs k t ht, ← Hzb.out]
      have Hf4 : Hid (Fit K (sgn bb (val l3))) := by
        refine Hf.out.le ?_
        have e : (sgn bb (val l3)).natAbs = val l3 := by cases bb <;> simp [sgn]
        rw [e, Hv3.out, Hzv.out]
        exact Nat.div_le_self _ _
      refine (Hn.out _ hO.ext).mono ?_
      rintro e w6 ⟨rfl, he6, hx6⟩
      have o0 := cellKeep hx6 HO.out.lt HO.out.o0; have o1 := cellKeep hx6 HO.out.lt HO.out.o1
      have I6 := HO.out.int.ext hx6
      have ho6 := HO.out.ge
      have hlt6 := Nat.lt_of_lt_of_le HO.out.lt hx6.size
      have ho7 : W0.heap.size ≤ w6.heap.size := he6.size
      have y0 := cellKeep he6 hB c0; have y1 := cellKeep he6 hB c1
      have hr6 := hbx.res.ext he6
      have HE6 : Hid (Ext w w6) := hbx.ext.trans he6
      have hsz : w.heap.size + 1 < W0.heap.size := by have := hbx.size; omega
      clear hO
      cases bb
      case false =>
        have k0' := hr6.c0; have k1' := hr6.c1; have g0' := hr6.f0; have g1' := hr6.f1
        go_wp2_with fail
        have Hc : sgn false (val l3) = z / 2 ^ k := by rw [Hzb.out, Hv3.out, ← Hzv.out]; simp [sgn]
        exact bodyPost_ret (v := .agg #[.int .i64 s4, .slice a4 n4 c4]) (by simp [results, Tryz.results166, go_sem, k0', k1']) rfl ⟨s4, a4, n4, c4, rfl, (I6.cast Hc).keep64 (Keep64.set2 (.i64 k0') (.slice k1') (notW_i64 _) _), HE6.out.put2 (by omega) _ _⟩
      case true =>
        go_wp2_with fail
        refine (Twos_any sm (some ⟨b, o, none⟩) n c z w6 (HI.out.ext HE6.out) (by omega) (bru_ext Hbr.out HE6.out)).mono ?_
        rintro e w7 ⟨t, rfl, ht1, ht0, ht2, hx7⟩
        have Ht1 := hid (ht1 Hz0.out)
        have o0' := cellKeep hx7 hlt6 o0; have o1' := cellKeep hx7 hlt6 o1
        have I7 := I6.ext hx7
        have hr7 := hr6.ext hx7
        have z7 := hx7.size
        have HE7 : Hid (Ext w w7) := HE6.out.trans hx7
        clear ht1 ht0 o0 o1 y0 y1
        by_cases htk : t < k
        · have itk : (t : Int) < (k : Int) := by omega
          have Hfin := Hval.out t Ht1.out
          rw [if_pos ⟨by simp, htk⟩] at Hfin
          have HFin := hid Hfin
          have Ho := hid (Of_from (w := w7) 1 (by omega) (by omega)); have Hsub := hid (Sub_from I7 K hK Hf4.out)
          have h7d : Ext w7 w7.drew := Below.drew (Ext.refl _)
          clear Hfin
          go_wp2_with fail
          go_region_held3 (fun w' => w'.cell? ⟨W0.heap.size, 0, none⟩ = some (.int .i64 s4) ∧ w'.cell? ⟨W0.heap.size, 1, none⟩ = some (.slice a4 n4 c4))
            (refine ⟨?_, ?_⟩ <;> (repeat (refine cellPut (by omega) ?_)) <;> exact cellKeep (W := w7) (by assumption) (by omega) (by assumption))
            (first | (go_at_call 130; refine (Ho.out _ (by assumption)).mono ?_; rintro e wa ⟨rfl, hea, hxa⟩) | (go_at_call 86; refine (Hsub.out _ 1 none 0 0 1 (by assumption) (IsInt.small _ _ (by omega) (by omega)) (Fit.one hK1)).mono ?_; rintro e wb ⟨s8, a8, n8, c8, rfl, hI8, heb, hxb⟩; have hr8 := hr7.ext heb; have k0' := hr8.c0; have k1' := hr8.c1; have g0' := hr8.f0; have g1' := hr8.f1))
          go_wp2_with fail
          exact bodyPost_ret (v := .agg #[.int .i64 s8, .slice a8 n8 c8]) (by simp [results, Tryz.results166, go_sem, k0', k1']) rfl ⟨s8, a8, n8, c8, rfl, (hI8.cast HFin.out.symm).keep64 (Keep64.set2 (.i64 k0') (.slice k1') (notW_i64 _) _), (HE7.out.trans heb).put2 (by omega) _ _⟩
        · have itk : ¬ (t : Int) < (k : Int) := by omega
          have Hfin := Hval.out t Ht1.out
          rw [if_neg (fun h => htk h.2)] at Hfin
          have k0' := hr7.c0; have k1' := hr7.c1; have g0' := hr7.f0; have g1' := hr7.f1
          have HFin := hid Hfin
          clear Hfin
          go_wp2_with fail
          exact bodyPost_ret (v := .agg #[.int .i64 s4, .slice a4 n4 c4]) (by simp [results, Tryz.results166, go_sem, k0', k1']) rfl ⟨s4, a4, n4, c4, rfl, (I7.cast HFin.out.symm).keep64 (Keep64.set2 (.i64 k0') (.slice k1') (notW_i64 _) _), HE7.out.put2 (by omega) _ _⟩

end Go.Proofs.YtfjnlopbmkimiaaGreatDoor
namespace Go.Proofs.YtfjnlopbmkimiaaGreatDoor
open Go.RowKit

/-- A variable that holds a number. -/
structure Box (W : World) (g : Nat) (s : Int) (a : Option Addr) (n c : Nat) : Prop where
  row : W.heap[g]? = some (.cells #[.int .i64 s, .slice a n c] 74 (0, 0))
theorem Box.lt {W : World} {g : Nat} {s : Int} {a : Option Addr} {n c : Nat} (h : Box W g s a n c) : g < W.heap.size := (Array.getElem?_eq_some_iff.1 h.row).1
theorem Box.ext {W W' : World} {g : Nat} {s : Int} {a : Option Addr} {n c : Nat} (h : Box W g s a n c) (k : Ext W W') : Box W' g s a n c := ⟨(k.block _ h.lt).trans h.row⟩
theorem Box.c0 {W : World} {g : Nat} {s : Int} {a : Option Addr} {n c : Nat} (h : Box W g s a n c) : W.cell? ⟨g, 0, none⟩ = some (.int .i64 s) := by rw [cell_of_row W g 0 _ _ (0, 0) h.row]; rfl
theorem Box.c1 {W : World} {g : Nat} {s : Int} {a : Option Addr} {n c : Nat} (h : Box W g s a n c) : W.cell? ⟨g, 1, none⟩ = some (.slice a n c) := by rw [cell_of_row W g 1 _ _ (0, 0) h.row]; rfl
theorem Box.f0 {W : World} {g : Nat} {s : Int} {a : Option Addr} {n c : Nat} (h : Box W g s a n c) : W.frozen? ⟨g, 0, none⟩ = false := frozen_of_row W g 0 _ _ h.row
theorem Box.f1 {W : World} {g : Nat} {s : Int} {a : Option Addr} {n c : Nat} (h : Box W g s a n c) : W.frozen? ⟨g, 1, none⟩ = false := frozen_of_row W g 1 _ _ h.row
theorem Box.own {W : World} {g : Nat} {s : Int} {a : Option Addr} {n c : Nat} (h : Box W g s a n c) (s' : Int) (a' : Option Addr) (n' c' : Nat) : Box ((W.setCell ⟨g, 0, none⟩ (.int .i64 s')).setCell ⟨g, 1, none⟩ (.slice a' n' c')) g s' a' n' c' := by
  have h1 := heap_setCell_same W g 0 _ _ (.int .i64 s') h.row
  have h2 := heap_setCell_same (W.setCell ⟨g, 0, none⟩ (.int .i64 s')) g 1 _ _ (.slice a' n' c') h1
  exact ⟨h2⟩
theorem Box.put {W : World} {g h o : Nat} {s : Int} {a : Option Addr} {n c : Nat} (hb : Box W g s a n c) (hne : g ≠ h) (u : Value) : Box (W.setCell ⟨h, o, none⟩ u) g s a n c :=
  ⟨(Below.heap_setCell _ _ _ _ hne).trans hb.row⟩
theorem box_new (w : World) (s : Int) (a : Option Addr) (n c : Nat) : Box (w.alloc (.cells #[.int .i64 s, .slice a n c] 74)) w.heap.size s a n c := ⟨heap_alloc_new w _⟩

end Go.Proofs.YtfjnlopbmkimiaaGreatDoor
namespace Go.Proofs.YtfjnlopbmkimiaaGreatDoor
open Go.RowKit

/-- Block g holds m numbers side by side: f 0, f 1, .. -/
def Nums (w : World) (g m : Nat) (t : TypeId) (f : Nat → Int) : Prop := ∃ cs : Array Value, w.heap[g]? = some (.cells cs t (0, 0)) ∧ cs.size = 2 * m ∧
  ∀ i, i < m → ∃ (s : Int) (a : Option Addr) (n c : Nat), cs[i * 2]? = some (.int .i64 s) ∧ cs[i * 2 + 1]? = some (.slice a n c) ∧ IsInt w s a n c (f i)

theorem Nums.lt {w : World} {g m : Nat} {t : TypeId} {f : Nat → Int} (h : Nums w g m t f) : g < w.heap.size := by
  obtain ⟨cs, h1, _⟩ := h
  exact (Array.getElem?_eq_some_iff.1 h1).1
theorem Nums.ext {w w' : World} {g m : Nat} {t : TypeId} {f : Nat → Int} (h : Nums w g m t f) (k : Ext w w') : Nums w' g m t f := by
  have hl := h.lt
  obtain ⟨cs, h1, h2, h3⟩ := h
  refine ⟨cs, (k.block _ hl).trans h1, h2, fun i hi => ?_⟩
  obtain ⟨s, a, n, c, q1, q2, q3⟩ := h3 i hi
  exact ⟨s, a, n, c, q1, q2, q3.ext k⟩
theorem Nums.congr {w : World} {g m : Nat} {t : TypeId} {f f' : Nat → Int} (h : Nums w g m t f) (e : ∀ i, i < m → f i = f' i) : Nums w g m t f' := by
  obtain ⟨cs, h1, h2, h3⟩ := h
  refine ⟨cs, h1, h2, fun i hi => ?_⟩
  obtain ⟨s, a, n, c, q1, q2, q3⟩ := h3 i hi
  exact ⟨s, a, n, c, q1, q2, q3.cast (e i hi)⟩
/-- What lies there, for a walk. -/
theorem Nums.get {w : World} {g m : Nat} {t : TypeId} {f : Nat → Int} (h : Nums w g m t f) (i : Nat) (hi : i < m) : ∃ (s : Int) (a : Option Addr) (n c : Nat),
    w.cell? ⟨g, i * 2, none⟩ = some (.int .i64 s) ∧ w.cell? ⟨g, i * 2 + 1, none⟩ = some (.slice a n c) ∧ w.frozen? ⟨g, i * 2, none⟩ = false ∧ w.frozen? ⟨g, i * 2 + 1, none⟩ = false ∧ IsInt w s a n c (f i) := by
  obtain ⟨cs, h1, h2, h3⟩ := h
  obtain ⟨s, a, n, c, q1, q2, q3⟩ := h3 i hi
  refine ⟨s, a, n, c, ?_, ?_, frozen_of_row w g _ _ _ h1, frozen_of_row w g _ _ _ h1, q3⟩
  · rw [cell_of_row w g _ _ _ (0, 0) h1]; exact q1
  · rw [cell_of_row w g _ _ _ (0, 0) h1]; exact q2
def updN (f : Nat → Int) (i : Nat) (z : Int) : Nat → Int := fun j => if j = i then z else f j
/-- A number is written. -/
theorem Nums.keep {w : World} {g m : Nat} {t : TypeId} {f : Nat → Int} (h : Nums w g m t f) (i : Nat) (hi : i < m) (s' : Int) (v : Value) : Keep64 w ((w.setCell ⟨g, i * 2, none⟩ (.int .i64 s')).setCell ⟨g, i * 2 + 1, none⟩ v) := by
  obtain ⟨s, a, n, c, q1, q2, _⟩ := h.get i hi
  exact Keep64.set2 (.i64 q1) (.slice q2) (notW_i64 s') v
theorem Nums.set {w : World} {g m : Nat} {t : TypeId} {f : Nat → Int} (h : Nums w g m t f) (i : Nat) (hi : i < m) {s' : Int} {a' : Option Addr} {n' c' : Nat} {z : Int} (hI : IsInt w s' a' n' c' z) :
    Nums ((w.setCell ⟨g, i * 2, none⟩ (.int .i64 s')).setCell ⟨g, i * 2 + 1, none⟩ (.slice a' n' c')) g m t (updN f i z) := by
  have hk := h.keep i hi s' (.slice a' n' c')
  obtain ⟨cs, h1, h2, h3⟩ := h
  have e1 := heap_setCell_same w g (i * 2) _ _ (.int .i64 s') h1
  have e2 := heap_setCell_same (w.setCell ⟨g, i * 2, none⟩ (.int .i64 s')) g (i * 2 + 1) _ _ (.slice a' n' c') e1
  refine ⟨_, e2, by simp [h2], fun j hj => ?_⟩
  by_cases hji : j = i
  · subst hji
    refine ⟨s', a', n', c', ?_, ?_, ?_⟩
    · rw [Array.getElem?_setIfInBounds_ne (by omega), Array.getElem?_setIfInBounds_self_of_lt (by omega)]
    · rw [Array.getElem?_setIfInBounds_self_of_lt (by simp; omega)]
    · unfold updN; rw [if_pos rfl]; exact hI.keep64 hk
  · obtain ⟨s, a, n, c, q1, q2, q3⟩ := h3 j hj
    refine ⟨s, a, n, c, ?_, ?_, ?_⟩
    · rw [Array.getElem?_setIfInBounds_ne (by omega), Array.getElem?_setIfInBounds_ne (by omega)]; exact q1
    · rw [Array.getElem?_setIfInBounds_ne (by omega), Array.getElem?_setIfInBounds_ne (by omega)]; exact q2
    · unfold updN; rw [if_neg hji]; exact q3.keep64 hk
/-- Another block is written. -/
theorem Nums.put {w w' : World} {g k m : Nat} {t : TypeId} {f : Nat → Int} (h : Nums w g m t f) (ho : Only k w w') (hne : g ≠ k) (hk : Keep64 w w') : Nums w' g m t f := by
  obtain ⟨cs, h1, h2, h3⟩ := h
  refine ⟨cs, (ho.block g hne).trans h1, h2, fun i hi => ?_⟩
  obtain ⟨s, a, n, c, q1, q2, q3⟩ := h3 i hi
  exact ⟨s, a, n, c, q1, q2, q3.keep64 hk⟩
end Go.Proofs.YtfjnlopbmkimiaaGreatDoor
namespace Go.Proofs.YtfjnlopbmkimiaaGreatDoor
open Go.RowKit

/-- All eight are nought. -/
def zeroN (f : Nat → Int) : Prop := ∀ i, i < 8 → f i = 0
theorem cmp3_zero {z : Int} : cmp3 z 0 = 0 ↔ z = 0 := by unfold cmp3; split; · omega
                                                         · split <;> omega
theorem rne_t {x y : Int} (h : x ≠ y) : (x != y) = true := by simp [h]
theorem rne_f {x y : Int} (h : x = y) : (x != y) = false := by simp [h]

set_option maxHeartbeats 1000000 in
theorem rowZero_yes (g m : Nat) (t : TypeId) (f : Nat → Int) (w : World) (h : Nums w g m t f) (hm : 8 ≤ m) (B : Bool) (hB : B = true ↔ zeroN f) :
    Calls Tryz.prog 128 #[.pointer (some ⟨g, 0, none⟩)] w fun e w' => e = .returned (.bool B) ∧ Ext w w' := by
  have Hh := Lib.hid h
  have Hm := Lib.hid hm
  have HB := Lib.hid hB
  clear h hm hB
  go_enter Tryz.func128, Tryz.ntmps128
  go_wp2_with fail
  go_loopg [3, 4] 8 (fun kk s3 s4 wr => ∃ k : Nat, s4 = .int .i64 (k : Int) ∧ k ≤ 8 ∧ 8 - k = kk ∧ Ext w wr ∧ ∀ i, i < k → f i = 0)
  case atStart => exact ⟨0, rfl, by omega, by omega, Ext.refl _, fun i hi => by omega⟩
  case round =>
    obtain ⟨k, rfl, hk, hkk, hx, hz⟩ := hrel
    have Hz := Lib.hid hz
    have Hkk := Lib.hid hkk
    clear hz hkk
    by_cases hk8 : k = 8
    · subst hk8
      have hBt : B = true := HB.out.2 Hz.out
      subst hBt
      go_wp2_with fail
      go_ret
      exact ⟨rfl, hx⟩
    have hlt : k < 8 := by omega
    have q1 : (k : Int) < 8 := by omega
    obtain ⟨s, a, n, c, l1, l2, _, _, hI⟩ := (Hh.out.ext hx).get k (by have := Hm.out; omega)
    have Hc := Lib.hid hI.cmp3
    have Hs := Lib.hid (Sign_any s (.slice a n c))
    have Hx := Lib.hid hx
    clear hI hx
    go_wp2_with fail
    refine (Hs.out wr).mono ?_
    rintro e w2 ⟨rfl, hx2⟩
    have Hx2 := Lib.hid (Hx.out.trans hx2)
    clear hx2 l1 l2 Hs
    rw [Hc.out]
    by_cases hz : f k = 0
    · have b1 : (cmp3 (f k) 0 != 0) = false := rne_f (cmp3_zero.2 hz)
      have wk : IntKind.i64.wrap ((k : Int) + 1) = ((k + 1 : Nat) : Int) := by rw [IntKind.wrap_i64]; omega
      have Hz' := Lib.hid (show ∀ i, i < k + 1 → f i = 0 from fun i hi => by
        by_cases e : i = k
        · rw [e]; exact hz
        · exact Hz.out i (by omega))
      have Hk1 := Lib.hid (show k + 1 ≤ 8 by omega)
      clear hz Hc
      go_wp2_with fail
      go_roundg (8 - (k + 1))
      case measure => have := Hkk.out; have := Hk1.out; omega
      case rel => exact ⟨k + 1, rfl, Hk1.out, rfl, Hx2.out, Hz'.out⟩
    · have b1 : (cmp3 (f k) 0 != 0) = true := rne_t fun e => hz (cmp3_zero.1 e)
      have hBf : B = false := by
        cases hb : B with
        | false => rfl
        | true => exact absurd (HB.out.1 hb k hlt) hz
      subst hBf
      clear hz Hc
      go_wp2_with fail
      go_ret
      exact ⟨rfl, Hx2.out⟩
end Go.Proofs.YtfjnlopbmkimiaaGreatDoor
namespace Go.Proofs.YtfjnlopbmkimiaaGreatDoor

section
variable {P : Program} {ops : Array Oper} {Q : Exit → Act → World → Prop} {md : Region.Mode} {S : World → Prop} {k : Nat}

/-- In whatever order: S holds behind each operation as long as number k has not come up. -/
def anyK (P : Program) (md : Region.Mode) (ops : Array Oper) (Q : Exit → Act → World → Prop) (k : Nat) (S : World → Prop) : Nat → Array Bool → Act → World → Prop
  | 0, l, a, w => Region.ready md ops l = [] ∧ Q .normal a w
  | n + 1, l, a, w => (Region.ready md ops l = [] → Q .normal a w) ∧
      ∀ i, i ∈ Region.ready md ops l → wpOp P ops Q i (fun a' w' => ((l.setIfInBounds i true).getD k true = false → S w') ∧ anyK P md ops Q k S n (l.setIfInBounds i true) a' w') a w

theorem anyK_plain (n : Nat) : ∀ (l : Array Bool) (a : Act) (w : World), anyK P md ops Q k S n l a w → wpAny P md ops Q n l a w := by
  induction n with
  | zero => exact fun _ _ _ h => h
  | succ n ih => exact fun l a w h => ⟨h.1, fun i hi => wpOp_mono (fun a' w' h' => ih _ a' w' h'.2) (h.2 i hi)⟩

/-- Number k waits for number i, by way of others too. -/
def waits (md : Region.Mode) (ops : Array Oper) : Nat → Nat → Nat → Bool
  | 0, _, _ => false
  | n + 1, k, i => match ops[k]? with
    | some o => o.after.any fun e => Region.binds md e && (e.on == i || waits md ops n e.on i)
    | none => false

/-- What has come up has come up behind all that it waits for. -/
def closedL (md : Region.Mode) (ops : Array Oper) (l : Array Bool) : Prop :=
  ∀ j o, ops[j]? = some o → l.getD j false = true → ∀ e ∈ o.after, Region.binds md e = true → l.getD e.on false = true
def closedB (md : Region.Mode) (ops : Array Oper) (l : Array Bool) : Bool :=
  (List.range ops.size).all fun j => !(l.getD j false) || (match ops[j]? with
    | some o => o.after.all fun e => !(Region.binds md e) || l.getD e.on false
    | none => true)
theorem closedB_spec {l : Array Bool} (h : closedB md ops l = true) : closedL md ops l := by
  intro j o ho hl e he hb
  have hj : j < ops.size := (Array.getElem?_eq_some_iff.1 ho).1
  have h1 := List.all_eq_true.1 h j (List.mem_range.2 hj)
  rw [hl, ho] at h1
  have h2 : (o.after.all fun e => !(Region.binds md e) || l.getD e.on false) = true := by simpa using h1
  have h3 := Array.all_eq_true_iff_forall_mem.1 h2 e he
  rw [hb] at h3
  simpa using h3
theorem closedL_set {l : Array Bool} {j : Nat} (h : closedL md ops l) (hj : j ∈ Region.ready md ops l) : closedL md ops (l.setIfInBounds j true) := by
  intro m o ho hl e he hb
  by_cases hm : j = m
  · subst hm
    obtain ⟨_, o', ho', hall⟩ := mem_ready.1 hj
    rw [ho] at ho'
    cases ho'
    exact getD_set_true (hall e he hb)
  · rw [Go.getD_set_ne false hm] at hl
    exact getD_set_true (h m o ho hl e he hb)

theorem waits_listed {l : Array Bool} (hc : closedL md ops l) (n : Nat) : ∀ (k i : Nat), waits md ops n k i = true → (∀ o, ops[k]? = some o → ∀ e ∈ o.after, Region.binds md e = true → l.getD e.on false = true) → l.getD i false = true := by
  induction n with
  | zero => intro k i h; cases h
  | succ n ih =>
    intro k i h hk
    unfold waits at h
    cases ho : ops[k]? with
    | none => rw [ho] at h; cases h
    | some o =>
      rw [ho] at h
      obtain ⟨e, he, hb⟩ := Array.any_eq_true'.1 h
      obtain ⟨h1, h2⟩ : Region.binds md e = true ∧ (e.on = i ∨ waits md ops n e.on i = true) := by simpa using hb
      have h3 := hk o ho e he h1
      rcases h2 with h2 | h2
      · rw [← h2]; exact h3
      · exact ih e.on i h2 (fun o' ho' e' he' hb' => hc e.on o' ho' h3 e' he' hb')
theorem waits_unready {l : Array Bool} {i n : Nat} (hc : closedL md ops l) (hw : waits md ops n k i = true) (hi : i ∈ Region.ready md ops l) : k ∉ Region.ready md ops l := by
  intro hk
  obtain ⟨_, o, ho, hall⟩ := mem_ready.1 hk
  have h1 := waits_listed hc n k i hw (fun o' ho' => by rw [ho] at ho'; cases ho'; exact hall)
  have h2 := (mem_ready.1 hi).1
  rcases Nat.lt_or_ge i l.size with h | h
  · simp [h] at h1 h2
    rw [h2] at h1
    cases h1
  · simp [Array.getElem?_eq_none h] at h1

/-- Number i may be taken first, if it yields the same wherever S holds, and number k waits for it. -/
theorem anyK_first {i : Nat} {o : Oper} {v : Value} (hi : ops[i]? = some o) (hsel : ∀ (j : Nat) (o : Oper) cs b, ops[j]? = some o → o.op ≠ .select cs b)
    (hQ : ∀ c a w, Q (.panic c) (a.put o.dst v) w → Q (.panic c) a w) {N : Nat} (hw : waits md ops N k i = true) (n : Nat) :
    ∀ (l : Array Bool) (a : Act) (w : World), closedL md ops l →
      (∀ j oj, ops[j]? = some oj → j ≠ i → l.getD j true = false → (∀ e ∈ oj.after, Region.binds md e = true → e.on ≠ i) → o.apart ops oj = true) →
      i ∈ Region.ready md ops l → YieldsIf P ops S o v a → S w → l.getD k true = false →
      anyK P md ops Q k S n (l.setIfInBounds i true) (a.put o.dst v) w → anyK P md ops Q k S (n + 1) l a w := by
  induction n with
  | zero =>
    intro l a w _ _ hr hy hS _ H
    refine ⟨fun h => (by rw [h] at hr; cases hr), fun j hj => ?_⟩
    by_cases hji : j = i
    · subst hji
      exact hy.wpOp hi hS ⟨fun _ => hS, H⟩
    · have h := ready_mono hj hji
      rw [H.1] at h
      cases h
  | succ n ih =>
    intro l a w hc hfree hr hy hS hk H
    refine ⟨fun h => (by rw [h] at hr; cases hr), fun j hj => ?_⟩
    by_cases hji : j = i
    · subst hji
      exact hy.wpOp hi hS ⟨fun _ => hS, H⟩
    have hjk : j ≠ k := fun e => waits_unready hc hw hr (e ▸ hj)
    obtain ⟨hjun, oj, hoj, hall⟩ := mem_ready.1 hj
    have hnot : ∀ e ∈ oj.after, Region.binds md e = true → e.on ≠ i := by
      intro e he hb heq
      have h1 := hall e he hb
      have h0 := (mem_ready.1 hr).1
      rw [heq] at h1
      rcases Nat.lt_or_ge i l.size with h' | h'
      · simp [h'] at h0 h1
        rw [h0] at h1
        cases h1
      · simp [Array.getElem?_eq_none h'] at h1
    have h2 := wpOp_putIf hoj (hfree j oj hoj hji hjun hnot) (fun cs b => hsel i o cs b hi) (fun cs b => hsel j oj cs b hoj) hQ hy (H.2 j (ready_mono hj hji))
    have hk1 : (l.setIfInBounds j true).getD k true = false := by rw [Go.getD_set_ne true hjk]; exact hk
    have hik : i ≠ k := fun e => waits_unready hc hw hr (e ▸ hr)
    have hk2 : ((l.setIfInBounds i true).setIfInBounds j true).getD k true = false := by rw [Go.getD_set_ne true hjk, Go.getD_set_ne true hik]; exact hk
    have hfree' : ∀ m om, ops[m]? = some om → m ≠ i → (l.setIfInBounds j true).getD m true = false → (∀ e ∈ om.after, Region.binds md e = true → e.on ≠ i) → o.apart ops om = true := by
      intro m om hm hmi hun hno
      refine hfree m om hm hmi ?_ hno
      by_cases e : j = m
      · subst e; exact hjun
      · rw [Go.getD_set_ne true e] at hun; exact hun
    refine wpOp_mono (fun a' w' h3 => ?_) h2
    obtain ⟨y3, s3, r3⟩ := h3
    refine ⟨fun _ => s3 hk2, ih _ a' w' (closedL_set hc hj) hfree' (ready_mono hr (Ne.symm hji)) y3 (s3 hk2) hk1 ?_⟩
    rw [Array.setIfInBounds_comm _ _ hji]
    exact r3

theorem anyK_take {i : Nat} {o : Oper} {v : Value} {n : Nat} {l : Array Bool} {a : Act} {w : World} (hi : ops[i]? = some o)
    (hs : Region.noSelect ops = true) (hf : Region.free md ops l i = true) (hr : (Region.ready md ops l).contains i = true) {N : Nat} (hw : waits md ops N k i = true) (hc : closedB md ops l = true) (hk : l.getD k true = false)
    (hQ : ∀ c a w, Q (.panic c) (a.put o.dst v) w → Q (.panic c) a w) (hy : YieldsIf P ops S o v a) (hS : S w)
    (h : anyK P md ops Q k S n (l.setIfInBounds i true) (a.put o.dst v) w) : anyK P md ops Q k S (n + 1) l a w :=
  anyK_first hi (Region.noSelect_spec hs) hQ hw n l a w (closedB_spec hc) (Region.free_spec hi hf) (by simpa using hr) hy hS hk h

/-- One alone may come up. -/
theorem anyK_one {i : Nat} {o : Oper} {n : Nat} {l : Array Bool} {a : Act} {w : World} (hr : Region.ready md ops l = [i]) (ho : ops[i]? = some o)
    (h : ∀ K' : Act → World → Prop, Shut (∀ a w, ((l.setIfInBounds i true).getD k true = false → S w) → anyK P md ops Q k S n (l.setIfInBounds i true) a w → K' a w) → if Region.wanted o (yielded ops a.tmps) = true then Oper.wp P o a w K' Q else K' (a.put o.dst undef) w) :
    anyK P md ops Q k S (n + 1) l a w := by
  refine ⟨fun h0 => (by rw [hr] at h0; cases h0), fun j hj => ?_⟩
  rw [hr] at hj
  rcases List.mem_singleton.1 hj with rfl
  exact wpOp_step ho (fun K' hK => h K' (fun a w hS hW => hK a w ⟨hS, hW⟩))

theorem anyK_done {l : Array Bool} {a : Act} {w : World} (hr : Region.ready md ops l = []) (h : Q .normal a w) (n : Nat) : anyK P md ops Q k S n l a w := by
  cases n with
  | zero => exact ⟨hr, h⟩
  | succ n => exact ⟨fun _ => h, by rw [hr]; intro i hi; cases hi⟩

theorem wp_region_K (k : Nat) (S : World → Prop) {id : Nat} {a : Act} {w : World} (hm : P.follows .mixedOrders = true)
    (h : anyK P .any ops Q k S ops.size (Array.replicate ops.size false) a w.drew) : (Code.region id ops true).wp P Q a w :=
  wp_region_any hm (anyK_plain _ _ _ _ h)
end

end Go.Proofs.YtfjnlopbmkimiaaGreatDoor
namespace Go.Proofs.YtfjnlopbmkimiaaGreatDoor
open Go.RowKit

/-- Block g alone has turned, of what was; words stay words. -/
structure Chg (g : Nat) (w w' : World) : Prop where
  os : w'.os = w.os
  tape : w'.tape = w.tape
  output : w'.output = w.output
  size : w.heap.size ≤ w'.heap.size
  block : ∀ k, k ≠ g → k < w.heap.size → w'.heap[k]? = w.heap[k]?
  keep : Keep64 w w'
theorem Chg.of_ext {g : Nat} {w w' : World} (h : Ext w w') : Chg g w w' := ⟨h.os, h.tape, h.output, h.size, fun k _ hk => h.block k hk, Keep64.ext h⟩
theorem Chg.trans {g : Nat} {a b c : World} (h : Chg g a b) (k : Chg g b c) : Chg g a c :=
  ⟨k.os.trans h.os, k.tape.trans h.tape, k.output.trans h.output, Nat.le_trans h.size k.size, fun i hp hi => (k.block i hp (Nat.lt_of_lt_of_le hi h.size)).trans (h.block i hp hi), h.keep.trans k.keep⟩
theorem Chg.of_only {g : Nat} {w w' : World} (h : Only g w w') (k : Keep64 w w') : Chg g w w' := ⟨h.os, h.tape, h.output, by rw [h.size]; exact Nat.le_refl _, fun i hi _ => h.block i hi, k⟩
/-- Of a world in which block g was not yet, all is as it was. -/
theorem Chg.ext {g : Nat} {a b c : World} (h : Ext a b) (k : Chg g b c) (hg : a.heap.size ≤ g) : Ext a c :=
  ⟨k.os.trans h.os, k.tape.trans h.tape, k.output.trans h.output, Nat.le_trans h.size k.size, fun i hi => (k.block i (by omega) (Nat.lt_of_lt_of_le hi h.size)).trans (h.block i hi)⟩
theorem Nums.chg {w w' : World} {g k m : Nat} {t : TypeId} {f : Nat → Int} (h : Nums w k m t f) (c : Chg g w w') (hne : k ≠ g) : Nums w' k m t f := by
  have hl := h.lt
  obtain ⟨cs, h1, h2, h3⟩ := h
  refine ⟨cs, (c.block k hne hl).trans h1, h2, fun i hi => ?_⟩
  obtain ⟨s, a, n, c', q1, q2, q3⟩ := h3 i hi
  exact ⟨s, a, n, c', q1, q2, q3.keep64 c.keep⟩

/-- n, or -n, by the power. -/
def sgK (k z : Int) : Int := if k % 16 < 8 then z else -z
/-- What add makes of the numbers. -/
def addN (f : Nat → Int) (k z : Int) : Nat → Int := updN f (k % 8).toNat (f (k % 8).toNat + sgK k z)
theorem addN_zero (f : Nat → Int) (k : Int) (i : Nat) : f i = addN f k 0 i := by
  unfold addN updN sgK
  split
  · rename_i e; rw [e]; split <;> omega
  · rfl
theorem Fit.sgK {K : Nat} {z : Int} (h : Fit K z) (k : Int) : Fit K (sgK k z) := by unfold Go.Proofs.YtfjnlopbmkimiaaGreatDoor.sgK; split; exact h; exact h.neg

set_option maxHeartbeats 400000 in
theorem stepK_storeW {ops : Array Oper} {o : Oper} {a : Act} {K : Act → World → Prop} {Q : Exit → Act → World → Prop} {E : Prop} {w : World} (hgd : o.guard = none) (hd : o.dst = none) (p x : Operand)
    (ho : o.op = .store 74 p x) (b off : Nat) (s : Int) (l : Option Addr) (n c : Nat) (u0 u1 : Value) (hp : a.eval p = .pointer (some ⟨b, off, none⟩)) (hx : a.eval x = .agg #[.int .i64 s, .slice l n c])
    (h0 : w.cell? ⟨b, off, none⟩ = some u0) (h1 : w.cell? ⟨b, off + 1, none⟩ = some u1) (f0 : w.frozen? ⟨b, off, none⟩ = false) (f1 : w.frozen? ⟨b, off + 1, none⟩ = false)
    (h : K a ((w.setCell ⟨b, off, none⟩ (.int .i64 s)).setCell ⟨b, off + 1, none⟩ (.slice l n c))) :
    if Region.wanted o (yielded ops a.tmps) = true then Oper.wp Tryz.prog o a w K Q else E := by
  have hw : Region.wanted o (yielded ops a.tmps) = true := by simp [Region.wanted, hgd]
  rw [if_pos hw]
  obtain ⟨od, oo, ot, opp, oa, og⟩ := o
  simp only at ho hd
  subst ho hd
  have HH := Lib.hid h
  clear h
  unfold Oper.wp execOp
  simp only [hp, hx]
  go_simp
  exact HH.out

set_option maxRecDepth 100000 in
set_option maxHeartbeats 2000000 in
theorem rowAdd_any (g m : Nat) (t : TypeId) (f : Nat → Int) (k : Int) (s : Int) (a : Option Addr) (n c : Nat) (z : Int) (w : World) (h : Nums w g m t f) (hm : 8 ≤ m) (hI : IsInt w s a n c z) (K : Nat) (hK : K ≤ 4194304) (hf : Fit K z) (hF : ∀ i, i < 8 → Fit K (f i)) :
    Calls Tryz.prog 89 #[.pointer (some ⟨g, 0, none⟩), .int .i64 k, .agg #[.int .i64 s, .slice a n c]] w fun e w' => e = .returned (.tuple #[]) ∧ Nums w' g m t (addN f k z) ∧ Chg g w w' := by
  have Hh := Lib.hid h; have HI := Lib.hid hI; have Hc := Lib.hid hI.cmp3; have Hf := Lib.hid hf; have HF := Lib.hid hF; have Hm := Lib.hid hm; have HK := Lib.hid hK
  have hgl := h.lt
  clear h hI hf hF hm hK
  have E0 := Ext.alloc w (.cells #[.int .i64 s, .slice a n c] 74)
  have B0 := box_new w s a n c
  have l0 := B0.c0; have l1 := B0.c1
  have HE0 := Lib.hid E0; have HB0 := Lib.hid B0
  clear E0 B0
  have Hs := Lib.hid (Sign_any s (.slice a n c))
  go_enter Tryz.func89, Tryz.ntmps89
  go_wp2_with fail
  refine (Hs.out _).mono ?_
  rintro e w1 ⟨rfl, hx1⟩
  have HE1 := Lib.hid (HE0.out.trans hx1); have HB1 := Lib.hid (HB0.out.ext hx1)
  clear hx1 l0 l1 HE0 HB0 Hs
  rw [Hc.out]
  obtain ⟨H, hH⟩ : ∃ H, w.heap.size = H := ⟨_, rfl⟩
  rw [hH] at HB1
  have HH := Lib.hid hH
  rw [hH] at hgl ⊢
  clear hH Hc
  by_cases hz : z = 0
  · subst hz
    have b1 : (cmp3 (0 : Int) 0 == 0) = true := by decide
    go_wp2_with fail
    refine bodyPost_ret (results_none rfl _ _ _) rfl ?_
    exact ⟨rfl, (Hh.out.ext HE1.out).congr fun i _ => addN_zero f k i, Chg.of_ext HE1.out⟩
  have b1 : (cmp3 z 0 == 0) = false := by
    have : cmp3 z 0 ≠ 0 := fun e => hz (cmp3_zero.1 e)
    simp [this]
  clear hz
  go_upto_if 11 with fail
  clear b1
  go_cut [] from 6 to 13 (fun wx => ∃ (s2 : Int) (a2 : Option Addr) (n2 c2 : Nat), Box wx H s2 a2 n2 c2 ∧ IsInt wx s2 a2 n2 c2 (sgK k z) ∧ Ext w wx)
  case first =>
    by_cases hk : k % 16 < 8
    · have b2 : (bits .and .i64 k 8 != 0) = false := by rw [and8, if_pos hk]; rfl
      have hsg : z = sgK k z := by unfold sgK; rw [if_pos hk]
      clear hk
      go_wp2_with fail
      go_meet
      exact ⟨s, a, n, c, HB1.out, (HI.out.ext HE1.out).cast hsg, HE1.out⟩
    · have b2 : (bits .and .i64 k 8 != 0) = true := by rw [and8, if_neg hk]; rfl
      have hsg : -z = sgK k z := by unfold sgK; rw [if_neg hk]
      have HN := Lib.hid (Neg_any s a n c z w1 (HI.out.ext HE1.out))
      have l0 := HB1.out.c0; have l1 := HB1.out.c1
      clear hk
      go_wp2_with fail
      refine HN.out.mono ?_
      rintro e w2 ⟨s2, a2, n2, c2, rfl, hI2, hx2⟩
      have bx := HB1.out.ext hx2
      have l0' := bx.c0; have l1' := bx.c1; have g0 := bx.f0; have g1 := bx.f1
      clear l0 l1 HN
      have Hfin := Lib.hid (show Box ((w2.setCell ⟨H, 0, none⟩ (.int .i64 s2)).setCell ⟨H, 1, none⟩ (.slice a2 n2 c2)) H s2 a2 n2 c2 ∧ IsInt ((w2.setCell ⟨H, 0, none⟩ (.int .i64 s2)).setCell ⟨H, 1, none⟩ (.slice a2 n2 c2)) s2 a2 n2 c2 (sgK k z) ∧ Ext w ((w2.setCell ⟨H, 0, none⟩ (.int .i64 s2)).setCell ⟨H, 1, none⟩ (.slice a2 n2 c2)) from
        ⟨bx.own s2 a2 n2 c2, (hI2.cast hsg).keep64 (Keep64.set2 (.i64 bx.c0) (.slice bx.c1) (notW_i64 s2) (.slice a2 n2 c2)), (HE1.out.trans hx2).put2 (by rw [HH.out]; exact Nat.le_refl _) _ _⟩)
      clear bx hI2 hx2 hsg
      go_wp2_with fail
      go_meet
      exact ⟨s2, a2, n2, c2, Hfin.out⟩
  case rest =>
  obtain ⟨s2, a2, n2, c2, bx, hI2, hE⟩ := hcut
  obtain ⟨j, hj⟩ : ∃ j, (k % 8).toNat = j := ⟨_, rfl⟩
  have hjk : k % 8 = (j : Int) := by omega
  have hj8 : j < 8 := by omega
  obtain ⟨s1, a1, n1, c1, y0, y1, fr0, fr1, hI1⟩ := (Hh.out.ext hE).get j (by have := Hm.out; omega)
  have HAd := Lib.hid (fun wx (hx : Ext wc wx) => Add_any s1 s2 a1 a2 n1 c1 n2 c2 _ _ wx (hI1.ext hx) (hI2.ext hx) K HK.out (HF.out j hj8) (Hf.out.sgK k))
  have l0 := bx.c0; have l1 := bx.c1
  have HN := Lib.hid (Hh.out.ext hE); have HE := Lib.hid hE
  have hbl := bx.lt
  have hgl' := HN.out.lt
  have e7 : bits .and .i64 k 7 = (j : Int) := by rw [and7, hjk]
  have i0 : (0 : Int) ≤ (j : Int) := by omega
  have i8 : (j : Int) < 8 := by omega
  clear HB1 HE1 HI Hf HF HK hI1 hI2 bx hE Hh
  go_upto_region 4 with fail
  have hd0 : Ext wc wc.drew := Below.drew (Ext.refl _)
  refine wp_region_K 13 (fun w' => (w'.cell? ⟨H, 0, none⟩ = some (.int .i64 s2) ∧ w'.cell? ⟨H, 1, none⟩ = some (.slice a2 n2 c2)) ∧ w'.cell? ⟨g, j * 2, none⟩ = some (.int .i64 s1) ∧ w'.cell? ⟨g, j * 2 + 1, none⟩ = some (.slice a1 n1 c1)) (by kernel_rfl) ?_
  show anyK _ _ _ _ _ _ 14 #[false, false, false, false, false, false, false, false, false, false, false, false, false, false] _ _
  have hHeld : (wc.drew.cell? ⟨H, 0, none⟩ = some (.int .i64 s2) ∧ wc.drew.cell? ⟨H, 1, none⟩ = some (.slice a2 n2 c2)) ∧ wc.drew.cell? ⟨g, j * 2, none⟩ = some (.int .i64 s1) ∧ wc.drew.cell? ⟨g, j * 2 + 1, none⟩ = some (.slice a1 n1 c1) := ⟨⟨cellKeep hd0 hbl l0, cellKeep hd0 hbl l1⟩, cellKeep hd0 hgl' y0, cellKeep hd0 hgl' y1⟩
  refine anyK_take (i := 0) (v := ?_) rfl (by kernel_rfl) (by kernel_rfl) (by kernel_rfl) (N := 14) (by kernel_rfl) (by kernel_rfl) (by kernel_rfl) (fun _ _ _ h => h) (Or.inl ⟨by rfl, ?_⟩) hHeld ?_
  rotate_left 1
  · intro w hSw
    go_simp
    try with_reducible rfl
  show anyK _ _ _ _ _ _ _ _ (Act.put _ (some 14) _) _
  simp only [Act.put, List.setIfInBounds_toArray, List.set_cons_zero, List.set_cons_succ]
  refine anyK_take (i := 1) (v := ?_) rfl (by kernel_rfl) (by kernel_rfl) (by kernel_rfl) (N := 14) (by kernel_rfl) (by kernel_rfl) (by kernel_rfl) (fun _ _ _ h => h) (Or.inl ⟨by rfl, ?_⟩) hHeld ?_
  rotate_left 1
  · intro w hSw
    go_simp
    try with_reducible rfl
  show anyK _ _ _ _ _ _ _ _ (Act.put _ (some 15) _) _
  simp only [Act.put, List.setIfInBounds_toArray, List.set_cons_zero, List.set_cons_succ]
  refine anyK_take (i := 2) (v := ?_) rfl (by kernel_rfl) (by kernel_rfl) (by kernel_rfl) (N := 14) (by kernel_rfl) (by kernel_rfl) (by kernel_rfl) (fun _ _ _ h => h) (Or.inl ⟨by rfl, ?_⟩) hHeld ?_
  rotate_left 1
  · intro w hSw
    go_simp
    try with_reducible rfl
  show anyK _ _ _ _ _ _ _ _ (Act.put _ (some 16) _) _
  simp only [Act.put, List.setIfInBounds_toArray, List.set_cons_zero, List.set_cons_succ]
  refine anyK_take (i := 3) (v := ?_) rfl (by kernel_rfl) (by kernel_rfl) (by kernel_rfl) (N := 14) (by kernel_rfl) (by kernel_rfl) (by kernel_rfl) (fun _ _ _ h => h) (Or.inl ⟨by rfl, ?_⟩) hHeld ?_
  rotate_left 1
  · intro w hSw
    go_simp
    try with_reducible rfl
  show anyK _ _ _ _ _ _ _ _ (Act.put _ (some 17) _) _
  simp only [Act.put, List.setIfInBounds_toArray, List.set_cons_zero, List.set_cons_succ]
  refine anyK_take (i := 4) (v := ?_) rfl (by kernel_rfl) (by kernel_rfl) (by kernel_rfl) (N := 14) (by kernel_rfl) (by kernel_rfl) (by kernel_rfl) (fun _ _ _ h => h) (Or.inl ⟨by rfl, ?_⟩) hHeld ?_
  rotate_left 1
  · intro w hSw
    go_simp
    try with_reducible rfl
  show anyK _ _ _ _ _ _ _ _ (Act.put _ (some 18) _) _
  simp only [Act.put, List.setIfInBounds_toArray, List.set_cons_zero, List.set_cons_succ]
  refine anyK_take (i := 5) (v := ?_) rfl (by kernel_rfl) (by kernel_rfl) (by kernel_rfl) (N := 14) (by kernel_rfl) (by kernel_rfl) (by kernel_rfl) (fun _ _ _ h => h) (Or.inl ⟨by rfl, ?_⟩) hHeld ?_
  rotate_left 1
  · intro w hSw
    go_simp
    try with_reducible rfl
  show anyK _ _ _ _ _ _ _ _ (Act.put _ (some 19) _) _
  simp only [Act.put, List.setIfInBounds_toArray, List.set_cons_zero, List.set_cons_succ]
  refine anyK_take (i := 6) (v := ?_) rfl (by kernel_rfl) (by kernel_rfl) (by kernel_rfl) (N := 14) (by kernel_rfl) (by kernel_rfl) (by kernel_rfl) (fun _ _ _ h => h) (Or.inl ⟨by rfl, ?_⟩) hHeld ?_
  rotate_left 1
  · intro w hSw
    go_simp
    try with_reducible rfl
  show anyK _ _ _ _ _ _ _ _ (Act.put _ (some 20) _) _
  simp only [Act.put, List.setIfInBounds_toArray, List.set_cons_zero, List.set_cons_succ]
  refine anyK_take (i := 7) (v := ?_) rfl (by kernel_rfl) (by kernel_rfl) (by kernel_rfl) (N := 14) (by kernel_rfl) (by kernel_rfl) (by kernel_rfl) (fun _ _ _ h => h) (Or.inl ⟨by rfl, ?_⟩) hHeld ?_
  rotate_left 1
  · intro w hSw
    go_simp
    try with_reducible rfl
  show anyK _ _ _ _ _ _ _ _ (Act.put _ (some 21) _) _
  simp only [Act.put, List.setIfInBounds_toArray, List.set_cons_zero, List.set_cons_succ]
  refine anyK_take (i := 8) (v := ?_) rfl (by kernel_rfl) (by kernel_rfl) (by kernel_rfl) (N := 14) (by kernel_rfl) (by kernel_rfl) (by kernel_rfl) (fun _ _ _ h => h) (Or.inl ⟨by rfl, ?_⟩) hHeld ?_
  rotate_left 1
  · intro w hSw
    go_simp
    try with_reducible rfl
  show anyK _ _ _ _ _ _ _ _ (Act.put _ (some 22) _) _
  simp only [Act.put, List.setIfInBounds_toArray, List.set_cons_zero, List.set_cons_succ]
  refine anyK_take (i := 9) (v := ?_) rfl (by kernel_rfl) (by kernel_rfl) (by kernel_rfl) (N := 14) (by kernel_rfl) (by kernel_rfl) (by kernel_rfl) (fun _ _ _ h => h) (Or.inl ⟨by rfl, ?_⟩) hHeld ?_
  rotate_left 1
  · intro w hSw
    go_simp
    try with_reducible rfl
  show anyK _ _ _ _ _ _ _ _ (Act.put _ (some 23) _) _
  simp only [Act.put, List.setIfInBounds_toArray, List.set_cons_zero, List.set_cons_succ]
  refine anyK_take (i := 11) (v := ?_) rfl (by kernel_rfl) (by kernel_rfl) (by kernel_rfl) (N := 14) (by kernel_rfl) (by kernel_rfl) (by kernel_rfl) (fun _ _ _ h => h) (Or.inl ⟨by rfl, ?_⟩) hHeld ?_
  rotate_left 1
  · intro w hSw
    go_simp
    try with_reducible rfl
  show anyK _ _ _ _ _ _ _ _ (Act.put _ (some 25) _) _
  simp only [Act.put, List.setIfInBounds_toArray, List.set_cons_zero, List.set_cons_succ]
  clear hHeld
  refine anyK_one (i := 10) (by kernel_rfl) rfl (fun Kk hKk => ?_)
  go_simp
  (go_at_call 125; refine (HAd.out wc.drew hd0).mono ?_; rintro e w3 ⟨s3, a3, n3, c3, rfl, hI3, hx3⟩)
  have he3 := hd0.trans hx3
  go_wp2_with fail
  refine hKk.out _ _ (fun _ => ⟨⟨cellKeep he3 hbl l0, cellKeep he3 hbl l1⟩, cellKeep he3 hgl' y0, cellKeep he3 hgl' y1⟩) ?_
  clear hKk Kk
  simp only [List.setIfInBounds_toArray, List.set_cons_zero, List.set_cons_succ]
  have hHeld : (w3.cell? ⟨H, 0, none⟩ = some (.int .i64 s2) ∧ w3.cell? ⟨H, 1, none⟩ = some (.slice a2 n2 c2)) ∧ w3.cell? ⟨g, j * 2, none⟩ = some (.int .i64 s1) ∧ w3.cell? ⟨g, j * 2 + 1, none⟩ = some (.slice a1 n1 c1) := ⟨⟨cellKeep he3 hbl l0, cellKeep he3 hbl l1⟩, cellKeep he3 hgl' y0, cellKeep he3 hgl' y1⟩
  refine anyK_take (i := 12) (v := ?_) rfl (by kernel_rfl) (by kernel_rfl) (by kernel_rfl) (N := 14) (by kernel_rfl) (by kernel_rfl) (by kernel_rfl) (fun _ _ _ h => h) (Or.inl ⟨by rfl, ?_⟩) hHeld ?_
  rotate_left 1
  · intro w hSw
    go_simp
    try with_reducible rfl
  show anyK _ _ _ _ _ _ _ _ (Act.put _ (some 26) _) _
  simp only [Act.put, List.setIfInBounds_toArray, List.set_cons_zero, List.set_cons_succ]
  clear hHeld
  have hN3 := HN.out.ext he3
  obtain ⟨s4, a4, n4, c4, z0, z1, fz0, fz1, _⟩ := hN3.get j (by have := Hm.out; omega)
  have hset := hN3.set j (by have := Hm.out; omega) hI3
  have hkp := hN3.keep j (by have := Hm.out; omega) s3 (.slice a3 n3 c3)
  refine anyK_one (i := 13) (by kernel_rfl) rfl (fun Kk hKk => ?_)
  refine stepK_storeW rfl rfl _ _ rfl g (j * 2) s3 a3 n3 c3 _ _ rfl rfl z0 z1 fz0 fz1 ?_
  refine hKk.out _ _ (fun h => Bool.noConfusion (show true = false from h)) ?_
  clear hKk Kk
  simp only [List.setIfInBounds_toArray, List.set_cons_zero, List.set_cons_succ]
  refine anyK_done (by kernel_rfl) ?_ _
  have hP : Only g w3 ((w3.setCell ⟨g, j * 2, none⟩ (.int .i64 s3)).setCell ⟨g, j * 2 + 1, none⟩ (.slice a3 n3 c3)) := ((Only.refl _ _).setCell _ _).setCell _ _
  have Hend := Lib.hid (show Nums ((w3.setCell ⟨g, j * 2, none⟩ (.int .i64 s3)).setCell ⟨g, j * 2 + 1, none⟩ (.slice a3 n3 c3)) g m t (addN f k z) ∧ Chg g w ((w3.setCell ⟨g, j * 2, none⟩ (.int .i64 s3)).setCell ⟨g, j * 2 + 1, none⟩ (.slice a3 n3 c3)) from
    ⟨by unfold addN; rw [hj]; exact hset, (Chg.of_ext (HE.out.trans he3)).trans (Chg.of_only hP hkp)⟩)
  clear hset hkp hP hN3 z0 z1 fz0 fz1 y0 y1 fr0 fr1 l0 l1
  generalize (w3.setCell ⟨g, j * 2, none⟩ (.int .i64 s3)).setCell ⟨g, j * 2 + 1, none⟩ (.slice a3 n3 c3) = V at *
  go_wp2_with fail
  go_end0
  exact ⟨rfl, Hend.out⟩
end Go.Proofs.YtfjnlopbmkimiaaGreatDoor
namespace Go.Proofs.YtfjnlopbmkimiaaGreatDoor
open Go.RowKit

/-- What addProduct makes of the numbers, as far as the i-th of the other row. -/
def mulN (f : Nat → Int) (k z : Int) (f2 : Nat → Int) : Nat → Nat → Int
  | 0 => f
  | i + 1 => addN (mulN f k z f2 i) (k + i) (z * f2 i)
theorem addN_abs (f : Nat → Int) (k z : Int) (A P : Nat) (hA : ∀ i, i < 8 → (f i).natAbs ≤ A) (hP : z.natAbs ≤ P) : ∀ i, i < 8 → (addN f k z i).natAbs ≤ A + P := fun i hi => by
  unfold addN updN
  split
  · rename_i e
    have h1 := hA (k % 8).toNat (by omega)
    unfold sgK
    split <;> omega
  · have := hA i hi; omega
theorem mulN_abs (f : Nat → Int) (k z : Int) (f2 : Nat → Int) (A P : Nat) (hA : ∀ i, i < 8 → (f i).natAbs ≤ A) (hP : ∀ i, i < 8 → (z * f2 i).natAbs ≤ P) : ∀ j, j ≤ 8 → ∀ i, i < 8 → (mulN f k z f2 j i).natAbs ≤ A + j * P
  | 0, _, i, hi => by have := hA i hi; simp only [mulN]; omega
  | j + 1, hj, i, hi => by
    have h1 := addN_abs (mulN f k z f2 j) (k + j) (z * f2 j) (A + j * P) P (mulN_abs f k z f2 A P hA hP j (by omega)) (hP j (by omega)) i hi
    simp only [mulN]
    rw [Nat.succ_mul]
    omega
theorem addN_wrap (f : Nat → Int) (k z : Int) : addN f (IntKind.i64.wrap k) z = addN f k z := by
  have h : IntKind.i64.wrap k % 16 = k % 16 := by rw [IntKind.wrap_i64]; omega
  unfold addN sgK
  rw [h, show IntKind.i64.wrap k % 8 = k % 8 by omega]

end Go.Proofs.YtfjnlopbmkimiaaGreatDoor
namespace Go.Proofs.YtfjnlopbmkimiaaGreatDoor
open Go.RowKit

/-- What twos has found among the first j: -1 where all are nought; else how often 2 divides them all. -/
def TwN (f : Nat → Int) (j : Nat) (B : Nat) (T : Int) : Prop := (T = -1 ∧ ∀ i, i < j → f i = 0) ∨ ∃ t : Nat, T = (t : Int) ∧ t < B ∧ (∀ i, i < j → 2 ^ t ∣ (f i).natAbs) ∧ ∃ i, i < j ∧ Tw (f i).natAbs t
theorem Tw.dvd_of_le {v t u : Nat} (h : Tw v t) (hu : u ≤ t) : 2 ^ u ∣ v := by
  obtain ⟨m, rfl⟩ := h
  exact Nat.dvd_trans (Nat.pow_dvd_pow 2 hu) (Nat.dvd_mul_right _ _)
theorem TwN.zero {f : Nat → Int} {j B : Nat} {T : Int} (h : TwN f j B T) (hz : f j = 0) : TwN f (j + 1) B T := by
  rcases h with ⟨h1, h2⟩ | ⟨t, h1, hb, h2, i, h3, h4⟩
  · refine Or.inl ⟨h1, fun i hi => ?_⟩
    by_cases e : i = j
    · rw [e]; exact hz
    · exact h2 i (by omega)
  · refine Or.inr ⟨t, h1, hb, fun i hi => ?_, i, by omega, h4⟩
    by_cases e : i = j
    · rw [e, hz]; exact Nat.dvd_zero _
    · exact h2 i (by omega)
theorem TwN.less {f : Nat → Int} {j B : Nat} {T : Int} {u : Nat} (h : TwN f j B T) (hu : Tw (f j).natAbs u) (hb : u < B) (hc : T < 0 ∨ (u : Int) < T) : TwN f (j + 1) B (u : Int) := by
  refine Or.inr ⟨u, rfl, hb, fun i hi => ?_, j, by omega, hu⟩
  by_cases e : i = j
  · rw [e]; exact hu.dvd_of_le (Nat.le_refl _)
  · rcases h with ⟨h1, h2⟩ | ⟨t, h1, hb', h2, _⟩
    · rw [h2 i (by omega)]; exact Nat.dvd_zero _
    · exact Nat.dvd_trans (Nat.pow_dvd_pow 2 (by omega)) (h2 i (by omega))
theorem TwN.more {f : Nat → Int} {j B : Nat} {T : Int} {u : Nat} (h : TwN f j B T) (hu : Tw (f j).natAbs u) (h0 : ¬ T < 0) (hc : ¬ (u : Int) < T) : TwN f (j + 1) B T := by
  rcases h with ⟨h1, h2⟩ | ⟨t, h1, hb', h2, i, h3, h4⟩
  · omega
  · refine Or.inr ⟨t, h1, hb', fun i hi => ?_, i, by omega, h4⟩
    by_cases e : i = j
    · rw [e]; exact hu.dvd_of_le (by omega)
    · exact h2 i (by omega)

theorem dec_t {p : Prop} [Decidable p] (h : p) : decide p = true := by simp [h]
theorem dec_f {p : Prop} [Decidable p] (h : ¬ p) : decide p = false := by simp [h]

set_option maxRecDepth 100000 in
set_option maxHeartbeats 2000000 in
theorem rowTwos_any (g m : Nat) (t : TypeId) (f : Nat → Int) (w : World) (h : Nums w g m t f) (hm : 8 ≤ m) (K : Nat) (hK : K ≤ 4194304) (hF : ∀ i, i < 8 → Fit K (f i)) (hbr : Bru w) :
    Calls Tryz.prog 129 #[.pointer (some ⟨g, 0, none⟩)] w fun e w' => (∃ T : Int, e = .returned (.int .i64 T) ∧ TwN f 8 (64 * K + 64) T) ∧ Ext w w' := by
  have Hh := Lib.hid h; have Hm := Lib.hid hm; have HK := Lib.hid hK; have HF := Lib.hid hF; have Hbr := Lib.hid hbr
  clear h hm hK hF hbr
  go_enter Tryz.func129, Tryz.ntmps129
  go_wp2_with fail
  go_loopg [3, 4, 5, 6] 8 (fun kk s3 s4 s5 s6 wr => ∃ (j : Nat) (T : Int), s6 = .int .i64 (j : Int) ∧ s3 = .int .i64 T ∧ j ≤ 8 ∧ 8 - j = kk ∧ TwN f j (64 * K + 64) T ∧ Ext w wr)
  case atStart => exact ⟨0, -1, rfl, rfl, by omega, by omega, Or.inl ⟨rfl, fun i hi => by omega⟩, Ext.refl _⟩
  case round =>
    obtain ⟨j, T, rfl, rfl, hj, hjk, hT, hx⟩ := hrel
    by_cases hj8 : j = 8
    · subst hj8
      have HT := Lib.hid hT
      clear hT
      go_wp2_with fail
      go_ret
      exact ⟨⟨T, rfl, HT.out⟩, hx⟩
    have hlt : j < 8 := by omega
    have q1 : (j : Int) < 8 := by omega
    have q0 : (0 : Int) ≤ (j : Int) := by omega
    have wk : IntKind.i64.wrap ((j : Int) + 1) = ((j + 1 : Nat) : Int) := by rw [IntKind.wrap_i64]; omega
    have Hj1 := Lib.hid (show j + 1 ≤ 8 by omega)
    have hO := Hh.out.ext hx
    obtain ⟨s, a, n, c, y0, y1, _, _, hI⟩ := hO.get j (by have := Hm.out; omega)
    have Hc := Lib.hid hI.cmp3; have HI := Lib.hid hI
    have Hs := Lib.hid (Sign_any s (.slice a n c))
    have HT := Lib.hid hT; have Hx := Lib.hid hx; have Hjk := Lib.hid hjk
    have hgl := hO.lt
    clear hI hT hx hjk hj8 hO
    obtain ⟨wo, rfl⟩ : ∃ wo : World, wo = wr := ⟨_, rfl⟩
    go_wp2_with fail
    refine (Hs.out wo).mono ?_
    rintro e w2 ⟨rfl, hx2⟩
    have Hx2 := Lib.hid (Hx.out.trans hx2); have HI2 := Lib.hid (HI.out.ext hx2)
    have z0 := cellKeep hx2 hgl y0; have z1 := cellKeep hx2 hgl y1
    clear hx2 y0 y1 Hs Hx HI
    rw [Hc.out]
    clear Hc
    by_cases hz : f j = 0
    · have b2 : (cmp3 (f j) 0 == 0) = true := by rw [hz]; rfl
      have HT' := Lib.hid (HT.out.zero hz)
      clear hz
      go_wp2_with fail
      go_roundg (8 - (j + 1))
      case measure => have := Hjk.out; have := Hj1.out; omega
      case rel => exact ⟨j + 1, T, rfl, rfl, Hj1.out, rfl, HT'.out, Hx2.out⟩
    have b2 : (cmp3 (f j) 0 == 0) = false := by
      have : cmp3 (f j) 0 ≠ 0 := fun e => hz (cmp3_zero.1 e)
      simp [this]
    have hnK : n ≤ K := HI2.out.len (HF.out j hlt)
    have HTw := Lib.hid (Twos_any s a n c (f j) w2 HI2.out (by have := HK.out; omega) (bru_ext Hbr.out Hx2.out))
    have Hz := Lib.hid hz; have HnK := Lib.hid hnK
    clear hz hnK
    go_wp2_with fail
    refine HTw.out.mono ?_
    rintro e w3 ⟨u, rfl, hu1, _, hu2, hx3⟩
    have Hu := Lib.hid (hu1 Hz.out); have Hu2 := Lib.hid (show u < 64 * K + 64 by have := HnK.out; omega); have Hx3 := Lib.hid (Hx2.out.trans hx3)
    clear hu1 hu2 hx3 HTw z0 z1 Hx2 HI2 b2 Hz HnK
    by_cases hc0 : T < 0
    · have b3 := dec_t hc0
      have HT' := Lib.hid (HT.out.less Hu.out Hu2.out (Or.inl hc0))
      go_wp2_with fail
      go_roundg (8 - (j + 1))
      case measure => have := Hjk.out; have := Hj1.out; omega
      case rel => exact ⟨j + 1, (u : Int), rfl, rfl, Hj1.out, rfl, HT'.out, Hx3.out⟩
    · have b3 := dec_f hc0
      by_cases hc1 : (u : Int) < T
      · have b4 := dec_t hc1
        have HT' := Lib.hid (HT.out.less Hu.out Hu2.out (Or.inr hc1))
        go_wp2_with fail
        go_roundg (8 - (j + 1))
        case measure => have := Hjk.out; have := Hj1.out; omega
        case rel => exact ⟨j + 1, (u : Int), rfl, rfl, Hj1.out, rfl, HT'.out, Hx3.out⟩
      · have b4 := dec_f hc1
        have HT' := Lib.hid (HT.out.more Hu.out hc0 hc1)
        go_wp2_with fail
        go_roundg (8 - (j + 1))
        case measure => have := Hjk.out; have := Hj1.out; omega
        case rel => exact ⟨j + 1, T, rfl, rfl, Hj1.out, rfl, HT'.out, Hx3.out⟩
end Go.Proofs.YtfjnlopbmkimiaaGreatDoor
