/-
  A number shifted by any distance: shift, its walk. A row shifted: row.shift. A whole number of circuits written into a variable. Rows of eight as sums of powers of z: what add, addProduct, Turn, Conj, Half, Mul make of them, in plain numbers. The one way in which a number of circuits is kept, in plain numbers: what lowest answers; half of a number; the laws' last steps. The cells of a row, and of a number of circuits, as a whole: stored, loaded, answered at once. A sum over a power of two brought into the one way in which it is kept: lowest. Whole values loaded and stored in regions that draw their order; Of.
-/
import Derived.Test.YtldkomeacocjbaaGreatDoorProg
import Derived.Test.YtldkomeacocjbaaGreatDoorRows
import Derived.BigQuiet
import Derived.Deep.Cut
import Derived.Deep.CutRange
import Derived.Deep.MidRow
import Derived.Deep.QuietTactic
import Derived.Deep.RegionHeld3
import Derived.Laws.Bits64b
import Derived.Laws.CopyOwn
import Derived.Laws.ResultCell
import Derived.Laws.Rows
import Derived.Lib.BitFns
import Derived.Lib.ItoaNum
import Derived.Lib.Strings
import Derived.Lib.TrailingZeros
import Derived.Shelf.Bits.Mul64
import Derived.Shelf.LaysM
import Derived.Shelf.Small.Bits
import Derived.Shelf.Small.Wraps
import Derived.Shelf.Spec.BitsCarry
import Derived.Shelf.Spec.TrailingZeros
import Derived.Shelf.Strconv.Itoa0
import Derived.Shelf.Strconv.Itoa1
import Derived.Shelf.Strconv.Itoa2
import Derived.Shelf.Strconv.Itoa3
import Derived.Shelf.Strings.Builder1
import Derived.Shelf.Strings.BuilderF
import Derived.Shelf.Strings.BuilderK
import Derived.WalkKit
import Derived.WalkLawsBesides
import Derived.WalkSpells
import Derived.Test.YtldkomeacocjbaaGreatDoorS00Mem
import Derived.Test.YtldkomeacocjbaaGreatDoorShelf
import Derived.Test.YtldkomeacocjbaaGreatDoorS02ShiftI
import Derived.Test.YtldkomeacocjbaaGreatDoorS03GuessD
import Derived.Test.YtldkomeacocjbaaGreatDoorS04IntB
import Derived.Test.YtldkomeacocjbaaGreatDoorS05IntD
import Derived.Test.YtldkomeacocjbaaGreatDoorS06ParC
import Derived.Test.YtldkomeacocjbaaGreatDoorS07GcD
import Derived.Test.YtldkomeacocjbaaGreatDoorS08Rh
namespace Go.Proofs.YtldkomeacocjbaaGreatDoor
open Go.RowKit

set_option maxRecDepth 100000 in
set_option maxHeartbeats 2000000 in
theorem shift_any (s : Int) (a : Option Addr) (n c : Nat) (z b0 V : Int) (w : World) (hI : IsInt w s a n c z) (K : Nat) (hK : K ≤ 4194304) (hK1 : 1 ≤ K) (hf : Fit K z) (hfV : Fit K V) (hb1 : -4611686018427387904 ≤ b0) (hb2 : b0 ≤ 4611686018427387904) (hV : ShV b0 z V) (hbr : Bru w) :
    Calls Tryz.prog 66 #[.agg #[.int .i64 s, .slice a n c], .int .i64 b0] w fun e w' => ∃ (s' : Int) (a' : Option Addr) (n' c' : Nat), e = .returned (.agg #[.int .i64 s', .slice a' n' c']) ∧ IsInt w' s' a' n' c' V ∧ Ext w w' := by
  have HI := Lib.hid hI; have Hf := Lib.hid hf; have HfV := Lib.hid hfV; have HV := Lib.hid hV; have Hbr := Lib.hid hbr; have HK := Lib.hid hK; have HK1 := Lib.hid hK1
  clear hI hf hfV hV hbr hK hK1
  obtain ⟨H, hH⟩ : ∃ H, w.heap.size = H := ⟨_, rfl⟩
  obtain ⟨U, hU⟩ : ∃ U, (w.alloc (.cells #[.int .i64 s, .slice a n c] 24)).alloc (.cells #[.int .i64 0, .slice none 0 0] 24) = U := ⟨_, rfl⟩
  have E0 : Ext w U := by rw [← hU]; exact (Ext.alloc _ _).trans (Ext.alloc _ _)
  have B0 : Box U H s a n c := by rw [← hU, ← hH]; exact (box_new w s a n c).ext (Ext.alloc _ _)
  have R0 : Box U (H + 1) 0 none 0 0 := by
    have := box_new (w.alloc (.cells #[.int .i64 s, .slice a n c] 24)) 0 none 0 0
    rw [← hU, ← hH]
    simpa using this
  have HU := Lib.hid hU; have HE0 := Lib.hid E0; have HB0 := Lib.hid B0; have HR0 := Lib.hid R0; have HH := Lib.hid hH
  clear hU E0 B0 R0 hH
  go_enter Tryz.func66, Tryz.ntmps66
  go_wp2_with fail
  rw [HU.out, HH.out]
  go_loopg [1, 5] b0.natAbs (fun kk s1 s5 wr => ∃ (b z' s' : Int) (a' : Option Addr) (n' c' : Nat), s1 = .int .i64 b ∧ b.natAbs = kk ∧ ShV b z' V ∧ Fit K z' ∧ Box wr H s' a' n' c' ∧ IsInt wr s' a' n' c' z' ∧ Box wr (H + 1) 0 none 0 0 ∧ Ext w wr ∧ -4611686018427387904 ≤ b ∧ b ≤ 4611686018427387904)
  case atStart => exact ⟨b0, z, s, a, n, c, rfl, rfl, HV.out, Hf.out, HB0.out, HI.out.ext HE0.out, HR0.out, HE0.out, hb1, hb2⟩
  case round =>
    clear HB0 HR0 HE0 HU
    obtain ⟨b, z', s', a', n', c', rfl, hkk, hS, hF, hB, hZ, hR, hE, h1, h2⟩ := hrel
    have HS := Lib.hid hS; have HF := Lib.hid hF; have HB := Lib.hid hB; have HZ := Lib.hid hZ; have HR := Lib.hid hR; have HE := Lib.hid hE; have Hkk := Lib.hid hkk
    clear hS hF hB hZ hR hE hkk
    obtain ⟨wo, rfl⟩ : ∃ wo : World, wo = wr := ⟨_, rfl⟩
    by_cases hb : b = 0
    · subst hb
      have e1 : ((0 : Int) != 0) = false := by decide
      have l0 := HB.out.c0; have l1 := HB.out.c1; have r0 := HR.out.c0; have r1 := HR.out.c1; have f0 := HR.out.f0; have f1 := HR.out.f1
      have bR := HR.out.own s' a' n' c'
      have k0 := bR.c0; have k1 := bR.c1
      have Hend := Lib.hid (show IsInt ((wo.setCell ⟨H + 1, 0, none⟩ (.int .i64 s')).setCell ⟨H + 1, 1, none⟩ (.slice a' n' c')) s' a' n' c' V ∧ Ext w ((wo.setCell ⟨H + 1, 0, none⟩ (.int .i64 s')).setCell ⟨H + 1, 1, none⟩ (.slice a' n' c')) from
        ⟨(HZ.out.cast HS.out.zero).keep64 (Keep64.set2 (.i64 r0) (.slice r1) (notW_i64 s') (.slice a' n' c')), HE.out.put2 (by rw [HH.out]; omega) _ _⟩)
      clear bR
      go_wp2_with fail
      exact bodyPost_ret (v := .agg #[.int .i64 s', .slice a' n' c']) (by simp [results, Tryz.results66, go_sem, k0, k1]) rfl ⟨s', a', n', c', rfl, Hend.out⟩
    have e1 : (b != 0) = true := rne_t hb
    go_upto_region 2 with fail
    go_cut [5] from 6 to 19 (fun s5 wx => wx = wo ∧ ∃ st : Int, s5 = .int .i64 st ∧ ((0 < b ∧ 1 ≤ st ∧ st ≤ 10000 ∧ st ≤ b) ∨ (b < 0 ∧ -10000 ≤ st ∧ st ≤ -1 ∧ b ≤ st)))
    case first =>
      go_wp2_with fail
      go_meet
      exact ⟨rfl, max (-10000) (min b 10000), rfl, by omega⟩
    case rest =>
    obtain ⟨rfl, st, rfl, hst⟩ := hcut
    have l0 := HB.out.c0; have l1 := HB.out.c1
    have wk : IntKind.i64.wrap (b - st) = b - st := by rw [IntKind.wrap_i64]; omega
    rcases hst with ⟨p1, p2, p3, p4⟩ | ⟨p1, p2, p3, p4⟩
    · obtain ⟨N, rfl⟩ : ∃ N : Nat, st = (N : Int) := ⟨st.toNat, by omega⟩
      have HSh := Lib.hid (Shift_up s' a' n' c' z' N wc HZ.out (by omega) K HK.out HF.out)
      have HS' := Lib.hid (HS.out.up p1 p4)
      have Hr := Lib.hid (show (b - N).natAbs < b.natAbs ∧ -4611686018427387904 ≤ b - N ∧ b - N ≤ 4611686018427387904 ∧ 0 ≤ b - N by omega)
      clear p1 p2 p3 p4 hb h1 h2 e1
      go_wp2_with fail
      refine HSh.out.mono ?_
      rintro e w2 ⟨s2, a2, n2, c2, rfl, hI2, hx2⟩
      have bx := HB.out.ext hx2; have bR := HR.out.ext hx2
      have l0' := bx.c0; have l1' := bx.c1; have g0 := bx.f0; have g1 := bx.f1
      have Hend := Lib.hid (show Box ((w2.setCell ⟨H, 0, none⟩ (.int .i64 s2)).setCell ⟨H, 1, none⟩ (.slice a2 n2 c2)) H s2 a2 n2 c2 ∧ IsInt ((w2.setCell ⟨H, 0, none⟩ (.int .i64 s2)).setCell ⟨H, 1, none⟩ (.slice a2 n2 c2)) s2 a2 n2 c2 (z' * ((2 ^ N : Nat) : Int)) ∧ Box ((w2.setCell ⟨H, 0, none⟩ (.int .i64 s2)).setCell ⟨H, 1, none⟩ (.slice a2 n2 c2)) (H + 1) 0 none 0 0 ∧ Ext w ((w2.setCell ⟨H, 0, none⟩ (.int .i64 s2)).setCell ⟨H, 1, none⟩ (.slice a2 n2 c2)) from
        ⟨bx.own s2 a2 n2 c2, hI2.keep64 (Keep64.set2 (.i64 l0') (.slice l1') (notW_i64 s2) (.slice a2 n2 c2)), (bR.put (by omega) _).put (by omega) _, (HE.out.trans hx2).put2 (by rw [HH.out]; exact Nat.le_refl _) _ _⟩)
      clear bx bR hI2 hx2 l0 l1 HSh
      go_wp2_with fail
      clear l0' l1' g0 g1
      generalize (w2.setCell ⟨H, 0, none⟩ (.int .i64 s2)).setCell ⟨H, 1, none⟩ (.slice a2 n2 c2) = V2 at *
      go_roundg ((b - N).natAbs)
      case measure => have := Hkk.out; have := Hr.out.1; omega
      case rel => exact ⟨b - N, z' * ((2 ^ N : Nat) : Int), s2, a2, n2, c2, rfl, rfl, HS'.out, HS'.out.fit Hr.out.2.2.2 HfV.out, Hend.out.1, Hend.out.2.1, Hend.out.2.2.1, Hend.out.2.2.2, Hr.out.2.1, Hr.out.2.2.1⟩
    · obtain ⟨N, rfl⟩ : ∃ N : Nat, st = -(N : Int) := ⟨(-st).toNat, by omega⟩
      have HSh := Lib.hid (Shift_down s' a' n' c' z' N wc HZ.out (by omega) (by omega) K HK.out HK1.out HF.out (bru_ext Hbr.out HE.out))
      have HS' := Lib.hid (HS.out.down p1 p4)
      have wk2 : IntKind.i64.wrap (b + (N : Int)) = b + (N : Int) := by rw [IntKind.wrap_i64]; omega
      clear wk
      have Hr := Lib.hid (show (b + (N : Int)).natAbs < b.natAbs ∧ -4611686018427387904 ≤ b + (N : Int) ∧ b + (N : Int) ≤ 4611686018427387904 by omega)
      clear p1 p2 p3 p4 hb h1 h2 e1
      go_wp2_with fail
      refine HSh.out.mono ?_
      rintro e w2 ⟨s2, a2, n2, c2, rfl, hI2, hx2⟩
      have bx := HB.out.ext hx2; have bR := HR.out.ext hx2
      have l0' := bx.c0; have l1' := bx.c1; have g0 := bx.f0; have g1 := bx.f1
      have Hend := Lib.hid (show Box ((w2.setCell ⟨H, 0, none⟩ (.int .i64 s2)).setCell ⟨H, 1, none⟩ (.slice a2 n2 c2)) H s2 a2 n2 c2 ∧ IsInt ((w2.setCell ⟨H, 0, none⟩ (.int .i64 s2)).setCell ⟨H, 1, none⟩ (.slice a2 n2 c2)) s2 a2 n2 c2 (z' / ((2 ^ N : Nat) : Int)) ∧ Box ((w2.setCell ⟨H, 0, none⟩ (.int .i64 s2)).setCell ⟨H, 1, none⟩ (.slice a2 n2 c2)) (H + 1) 0 none 0 0 ∧ Ext w ((w2.setCell ⟨H, 0, none⟩ (.int .i64 s2)).setCell ⟨H, 1, none⟩ (.slice a2 n2 c2)) from
        ⟨bx.own s2 a2 n2 c2, hI2.keep64 (Keep64.set2 (.i64 l0') (.slice l1') (notW_i64 s2) (.slice a2 n2 c2)), (bR.put (by omega) _).put (by omega) _, (HE.out.trans hx2).put2 (by rw [HH.out]; exact Nat.le_refl _) _ _⟩)
      clear bx bR hI2 hx2 l0 l1 HSh
      go_wp2_with fail
      clear l0' l1' g0 g1
      generalize (w2.setCell ⟨H, 0, none⟩ (.int .i64 s2)).setCell ⟨H, 1, none⟩ (.slice a2 n2 c2) = V2 at *
      go_roundg ((b + (N : Int)).natAbs)
      case measure => have := Hkk.out; have := Hr.out.1; omega
      case rel => exact ⟨b + (N : Int), z' / ((2 ^ N : Nat) : Int), s2, a2, n2, c2, rfl, rfl, HS'.out, HF.out.div, Hend.out.1, Hend.out.2.1, Hend.out.2.2.1, Hend.out.2.2.2, Hr.out.2.1, Hr.out.2.2⟩
end Go.Proofs.YtldkomeacocjbaaGreatDoor
namespace Go.Proofs.YtldkomeacocjbaaGreatDoor
open Go.RowKit

/-- The first j are shifted. -/
def shN (f V : Nat → Int) (j : Nat) : Nat → Int := fun i => if i < j then V i else f i
theorem ShV.of_zero {b V : Int} (h : ShV b 0 V) : V = 0 := by
  rcases h with ⟨_, h⟩ | ⟨_, h⟩
  · rw [← h]; simp
  · rcases Int.mul_eq_zero.1 h.symm with h | h
    · exact h
    · have : 0 < 2 ^ (-b).toNat := Nat.pow_pos (by decide)
      omega
theorem shN_step (f V : Nat → Int) (j i : Nat) : updN (shN f V j) j (V j) i = shN f V (j + 1) i := by
  unfold updN shN
  by_cases e : i = j
  · subst e; simp
  · rw [if_neg e]
    by_cases h : i < j
    · rw [if_pos h, if_pos (by omega)]
    · rw [if_neg h, if_neg (by omega)]
theorem shN_skip (f V : Nat → Int) (j i : Nat) (h : f j = V j) : shN f V j i = shN f V (j + 1) i := by
  unfold shN
  by_cases e : i = j
  · subst e; simp [h]
  · by_cases h : i < j
    · rw [if_pos h, if_pos (by omega)]
    · rw [if_neg h, if_neg (by omega)]
theorem bru_chg {g : Nat} {w w' : World} (h : Bru w) (c : Chg g w w') (hg : Tryz.lays29_ren.g 1 ≠ g) : Bru w' := fun j hj => by
  have h1 := h j hj
  have hl : Tryz.lays29_ren.g 1 < w.heap.size := by
    apply Nat.lt_of_not_le
    intro hle
    simp [World.cell?, Array.getElem?_eq_none hle] at h1
  have hb := c.block _ hg hl
  simp only [World.cell?] at h1 ⊢
  rw [hb]; exact h1

set_option maxRecDepth 100000 in
set_option maxHeartbeats 2000000 in
theorem rowShift_any (g m : Nat) (t : TypeId) (f V : Nat → Int) (b0 : Int) (w : World) (h : Nums w g m t f) (hm : 8 ≤ m) (K : Nat) (hK : K ≤ 4194304) (hK1 : 1 ≤ K) (hF : ∀ i, i < 8 → Fit K (f i)) (hFV : ∀ i, i < 8 → Fit K (V i)) (hb1 : -4611686018427387904 ≤ b0) (hb2 : b0 ≤ 4611686018427387904) (hV : ∀ i, i < 8 → ShV b0 (f i) (V i)) (hbr : Bru w) (hgb : Tryz.lays29_ren.g 1 ≠ g) :
    Calls Tryz.prog 77 #[.pointer (some ⟨g, 0, none⟩), .int .i64 b0] w fun e w' => e = .returned (.tuple #[]) ∧ Nums w' g m t (shN f V 8) ∧ Chg g w w' := by
  have Hh := Lib.hid h; have HF := Lib.hid hF; have HFV := Lib.hid hFV; have Hm := Lib.hid hm; have HK := Lib.hid hK; have HK1 := Lib.hid hK1; have HV := Lib.hid hV; have Hbr := Lib.hid hbr; have Hgb := Lib.hid hgb; have Hb1 := Lib.hid hb1; have Hb2 := Lib.hid hb2
  clear h hF hFV hm hK hK1 hV hbr hgb hb1 hb2
  by_cases hb : b0 = 0
  · subst hb
    have e1 : ((0 : Int) == 0) = true := by decide
    go_enter Tryz.func77, Tryz.ntmps77
    go_wp2_with fail
    refine bodyPost_ret (results_none rfl _ _ _) rfl ?_
    exact ⟨rfl, Hh.out.congr fun i _ => by
      unfold shN
      by_cases hi : i < 8
      · rw [if_pos hi]; exact (HV.out i hi).zero
      · rw [if_neg hi], Chg.of_ext (Ext.refl _)⟩
  have e1 : (b0 == 0) = false := by simp [hb]
  clear hb
  go_enter Tryz.func77, Tryz.ntmps77
  go_wp2_with fail
  clear e1
  go_loopg [4, 7] 8 (fun kk s4 s7 wr => ∃ j : Nat, s7 = .int .i64 (j : Int) ∧ j ≤ 8 ∧ 8 - j = kk ∧ Nums wr g m t (shN f V j) ∧ Chg g w wr)
  case atStart => exact ⟨0, rfl, by omega, by omega, Hh.out.congr fun i _ => by simp [shN], Chg.of_ext (Ext.refl _)⟩
  case round =>
    obtain ⟨j, rfl, hj, hjk, hN, hC⟩ := hrel
    by_cases hj8 : j = 8
    · subst hj8
      have Hend := Lib.hid (And.intro hN hC)
      clear hN hC
      go_wp2_with fail
      go_end0
      exact ⟨rfl, Hend.out⟩
    have hlt : j < 8 := by omega
    have q1 : (j : Int) < 8 := by omega
    have q0 : (0 : Int) ≤ (j : Int) := by omega
    obtain ⟨s1, a1, n1, c1, y0, y1, _, _, hI1⟩ := hN.get j (by have := Hm.out; omega)
    have hfj : shN f V j j = f j := by simp [shN]
    rw [hfj] at hI1
    have Hc1 := Lib.hid hI1.cmp3; have HI1 := Lib.hid hI1
    have Hs := Lib.hid (Sign_any s1 (.slice a1 n1 c1))
    have HN := Lib.hid hN; have HC := Lib.hid hC; have Hjk := Lib.hid hjk
    have hgl := hN.lt
    clear hI1 hN hC hjk hj8 hfj
    obtain ⟨wo, rfl⟩ : ∃ wo : World, wo = wr := ⟨_, rfl⟩
    go_wp2_with fail
    refine (Hs.out wo).mono ?_
    rintro e w2 ⟨rfl, hx2⟩
    have HN2 := Lib.hid (HN.out.ext hx2); have HC2 := Lib.hid (HC.out.trans (Chg.of_ext hx2)); have HI2 := Lib.hid (HI1.out.ext hx2)
    have z0 := cellKeep hx2 hgl y0; have z1 := cellKeep hx2 hgl y1
    have hgO := HN2.out.lt
    clear hx2 y0 y1 HN HC HI1 Hs hgl
    rw [Hc1.out]
    clear Hc1
    have wk : IntKind.i64.wrap ((j : Int) + 1) = ((j + 1 : Nat) : Int) := by rw [IntKind.wrap_i64]; omega
    have Hj1 := Lib.hid (show j + 1 ≤ 8 by omega)
    by_cases hz2 : f j = 0
    · have b2 : (cmp3 (f j) 0 != 0) = false := rne_f (cmp3_zero.2 hz2)
      have hvj : f j = V j := by
        have := HV.out j hlt
        rw [hz2] at this
        rw [hz2, this.of_zero]
      have Hcg := Lib.hid (fun i => shN_skip f V j i hvj)
      clear hz2 z0 z1 hvj
      go_wp2_with fail
      go_roundg (8 - (j + 1))
      case measure => have := Hjk.out; have := Hj1.out; omega
      case rel => exact ⟨j + 1, rfl, Hj1.out, rfl, HN2.out.congr fun i _ => Hcg.out i, HC2.out⟩
    have b2 : (cmp3 (f j) 0 != 0) = true := rne_t fun e => hz2 (cmp3_zero.1 e)
    clear hz2
    have HSh := Lib.hid (fun wx (hx : Ext w2 wx) => shift_any s1 a1 n1 c1 (f j) b0 (V j) wx (HI2.out.ext hx) K HK.out HK1.out (HF.out j hlt) (HFV.out j hlt) Hb1.out Hb2.out (HV.out j hlt) (bru_ext (bru_chg Hbr.out HC2.out Hgb.out) hx))
    go_upto_region 5 with fail
    have hd0 : Ext w2 w2.drew := Below.drew (Ext.refl _)
    refine wp_region_K 11 (fun w' => w'.cell? ⟨g, j * 2, none⟩ = some (.int .i64 s1) ∧ w'.cell? ⟨g, j * 2 + 1, none⟩ = some (.slice a1 n1 c1)) (by kernel_rfl) ?_
    show anyK _ _ _ _ _ _ 12 #[false, false, false, false, false, false, false, false, false, false, false, false] _ _
    have hHeld : w2.drew.cell? ⟨g, j * 2, none⟩ = some (.int .i64 s1) ∧ w2.drew.cell? ⟨g, j * 2 + 1, none⟩ = some (.slice a1 n1 c1) := ⟨cellKeep hd0 hgO z0, cellKeep hd0 hgO z1⟩
    refine anyK_take (i := 0) (v := ?_) rfl (by kernel_rfl) (by kernel_rfl) (by kernel_rfl) (N := 12) (by kernel_rfl) (by kernel_rfl) (by kernel_rfl) (fun _ _ _ h => h) (Or.inl ⟨by rfl, ?_⟩) hHeld ?_
    rotate_left 1
    · intro w hSw
      go_simp
      try with_reducible rfl
    show anyK _ _ _ _ _ _ _ _ (Act.put _ (some 17) _) _
    simp only [Act.put, List.setIfInBounds_toArray, List.set_cons_zero, List.set_cons_succ]
    refine anyK_take (i := 1) (v := ?_) rfl (by kernel_rfl) (by kernel_rfl) (by kernel_rfl) (N := 12) (by kernel_rfl) (by kernel_rfl) (by kernel_rfl) (fun _ _ _ h => h) (Or.inl ⟨by rfl, ?_⟩) hHeld ?_
    rotate_left 1
    · intro w hSw
      go_simp
      try with_reducible rfl
    show anyK _ _ _ _ _ _ _ _ (Act.put _ (some 18) _) _
    simp only [Act.put, List.setIfInBounds_toArray, List.set_cons_zero, List.set_cons_succ]
    refine anyK_take (i := 2) (v := ?_) rfl (by kernel_rfl) (by kernel_rfl) (by kernel_rfl) (N := 12) (by kernel_rfl) (by kernel_rfl) (by kernel_rfl) (fun _ _ _ h => h) (Or.inl ⟨by rfl, ?_⟩) hHeld ?_
    rotate_left 1
    · intro w hSw
      go_simp
      try with_reducible rfl
    show anyK _ _ _ _ _ _ _ _ (Act.put _ (some 19) _) _
    simp only [Act.put, List.setIfInBounds_toArray, List.set_cons_zero, List.set_cons_succ]
    refine anyK_take (i := 3) (v := ?_) rfl (by kernel_rfl) (by kernel_rfl) (by kernel_rfl) (N := 12) (by kernel_rfl) (by kernel_rfl) (by kernel_rfl) (fun _ _ _ h => h) (Or.inl ⟨by rfl, ?_⟩) hHeld ?_
    rotate_left 1
    · intro w hSw
      go_simp
      try with_reducible rfl
    show anyK _ _ _ _ _ _ _ _ (Act.put _ (some 20) _) _
    simp only [Act.put, List.setIfInBounds_toArray, List.set_cons_zero, List.set_cons_succ]
    refine anyK_take (i := 4) (v := ?_) rfl (by kernel_rfl) (by kernel_rfl) (by kernel_rfl) (N := 12) (by kernel_rfl) (by kernel_rfl) (by kernel_rfl) (fun _ _ _ h => h) (Or.inl ⟨by rfl, ?_⟩) hHeld ?_
    rotate_left 1
    · intro w hSw
      go_simp
      try with_reducible rfl
    show anyK _ _ _ _ _ _ _ _ (Act.put _ (some 21) _) _
    simp only [Act.put, List.setIfInBounds_toArray, List.set_cons_zero, List.set_cons_succ]
    refine anyK_take (i := 5) (v := ?_) rfl (by kernel_rfl) (by kernel_rfl) (by kernel_rfl) (N := 12) (by kernel_rfl) (by kernel_rfl) (by kernel_rfl) (fun _ _ _ h => h) (Or.inl ⟨by rfl, ?_⟩) hHeld ?_
    rotate_left 1
    · intro w hSw
      go_simp
      try with_reducible rfl
    show anyK _ _ _ _ _ _ _ _ (Act.put _ (some 22) _) _
    simp only [Act.put, List.setIfInBounds_toArray, List.set_cons_zero, List.set_cons_succ]
    refine anyK_take (i := 6) (v := ?_) rfl (by kernel_rfl) (by kernel_rfl) (by kernel_rfl) (N := 12) (by kernel_rfl) (by kernel_rfl) (by kernel_rfl) (fun _ _ _ h => h) (Or.inl ⟨by rfl, ?_⟩) hHeld ?_
    rotate_left 1
    · intro w hSw
      go_simp
      try with_reducible rfl
    show anyK _ _ _ _ _ _ _ _ (Act.put _ (some 23) _) _
    simp only [Act.put, List.setIfInBounds_toArray, List.set_cons_zero, List.set_cons_succ]
    refine anyK_take (i := 7) (v := ?_) rfl (by kernel_rfl) (by kernel_rfl) (by kernel_rfl) (N := 12) (by kernel_rfl) (by kernel_rfl) (by kernel_rfl) (fun _ _ _ h => h) (Or.inl ⟨by rfl, ?_⟩) hHeld ?_
    rotate_left 1
    · intro w hSw
      go_simp
      try with_reducible rfl
    show anyK _ _ _ _ _ _ _ _ (Act.put _ (some 24) _) _
    simp only [Act.put, List.setIfInBounds_toArray, List.set_cons_zero, List.set_cons_succ]
    refine anyK_take (i := 9) (v := ?_) rfl (by kernel_rfl) (by kernel_rfl) (by kernel_rfl) (N := 12) (by kernel_rfl) (by kernel_rfl) (by kernel_rfl) (fun _ _ _ h => h) (Or.inl ⟨by rfl, ?_⟩) hHeld ?_
    rotate_left 1
    · intro w hSw
      go_simp
      try with_reducible rfl
    show anyK _ _ _ _ _ _ _ _ (Act.put _ (some 26) _) _
    simp only [Act.put, List.setIfInBounds_toArray, List.set_cons_zero, List.set_cons_succ]
    clear hHeld
    refine anyK_one (i := 8) (by kernel_rfl) rfl (fun Kk hKk => ?_)
    go_simp
    (go_at_call 66; refine (HSh.out w2.drew hd0).mono ?_; rintro e w3 ⟨s3, a3, n3, c3, rfl, hI3, hx3⟩)
    have he3 := hd0.trans hx3
    go_wp2_with fail
    refine hKk.out _ _ (fun _ => ⟨cellKeep he3 hgO z0, cellKeep he3 hgO z1⟩) ?_
    clear hKk Kk
    simp only [List.setIfInBounds_toArray, List.set_cons_zero, List.set_cons_succ]
    have hHeld : w3.cell? ⟨g, j * 2, none⟩ = some (.int .i64 s1) ∧ w3.cell? ⟨g, j * 2 + 1, none⟩ = some (.slice a1 n1 c1) := ⟨cellKeep he3 hgO z0, cellKeep he3 hgO z1⟩
    refine anyK_take (i := 10) (v := ?_) rfl (by kernel_rfl) (by kernel_rfl) (by kernel_rfl) (N := 12) (by kernel_rfl) (by kernel_rfl) (by kernel_rfl) (fun _ _ _ h => h) (Or.inl ⟨by rfl, ?_⟩) hHeld ?_
    rotate_left 1
    · intro w hSw
      go_simp
      try with_reducible rfl
    show anyK _ _ _ _ _ _ _ _ (Act.put _ (some 27) _) _
    simp only [Act.put, List.setIfInBounds_toArray, List.set_cons_zero, List.set_cons_succ]
    clear hHeld
    have hN3 := HN2.out.ext he3
    obtain ⟨s4, a4, n4, c4, x0, x1, fz0, fz1, _⟩ := hN3.get j (by have := Hm.out; omega)
    have hset := hN3.set j (by have := Hm.out; omega) hI3
    have hkp := hN3.keep j (by have := Hm.out; omega) s3 (.slice a3 n3 c3)
    refine anyK_one (i := 11) (by kernel_rfl) rfl (fun Kk hKk => ?_)
    refine stepK_storeW rfl rfl _ _ rfl g (j * 2) s3 a3 n3 c3 _ _ rfl rfl x0 x1 fz0 fz1 ?_
    refine hKk.out _ _ (fun h => Bool.noConfusion (show true = false from h)) ?_
    clear hKk Kk
    simp only [List.setIfInBounds_toArray, List.set_cons_zero, List.set_cons_succ]
    refine anyK_done (by kernel_rfl) ?_ _
    have hP : Only g w3 ((w3.setCell ⟨g, j * 2, none⟩ (.int .i64 s3)).setCell ⟨g, j * 2 + 1, none⟩ (.slice a3 n3 c3)) := ((Only.refl _ _).setCell _ _).setCell _ _
    have Hend := Lib.hid (show Nums ((w3.setCell ⟨g, j * 2, none⟩ (.int .i64 s3)).setCell ⟨g, j * 2 + 1, none⟩ (.slice a3 n3 c3)) g m t (shN f V (j + 1)) ∧ Chg g w ((w3.setCell ⟨g, j * 2, none⟩ (.int .i64 s3)).setCell ⟨g, j * 2 + 1, none⟩ (.slice a3 n3 c3)) from
      ⟨hset.congr fun i _ => shN_step f V j i, (HC2.out.trans (Chg.of_ext he3)).trans (Chg.of_only hP hkp)⟩)
    clear hset hkp hP hN3 x0 x1 fz0 fz1 z0 z1 HSh HN2 HC2 HI2
    generalize (w3.setCell ⟨g, j * 2, none⟩ (.int .i64 s3)).setCell ⟨g, j * 2 + 1, none⟩ (.slice a3 n3 c3) = V3 at *
    go_wp2_with fail
    go_roundg (8 - (j + 1))
    case measure => have := Hjk.out; have := Hj1.out; omega
    case rel => exact ⟨j + 1, rfl, Hj1.out, rfl, Hend.out⟩
end Go.Proofs.YtldkomeacocjbaaGreatDoor
namespace Go.Proofs.YtldkomeacocjbaaGreatDoor
open Go.RowKit

/-- A block without words may be written. -/
theorem keep_only {w w' : World} {g : Nat} {cs : Array Value} {t : TypeId} (ho : Only g w w') (h : w.heap[g]? = some (.cells cs t (0, 0))) (hn : ∀ (i : Nat) (x : Int), cs[i]? ≠ some (Value.int .u64 x)) : Keep64 w w' := by
  refine ⟨by rw [ho.size]; exact Nat.le_refl _, fun b o x hx => ?_⟩
  by_cases hb : b = g
  · subst hb
    rw [cell_of_row w b o cs t (0, 0) h] at hx
    exact absurd hx (hn o x)
  · have := ho.block b hb
    simp only [World.cell?] at hx ⊢
    rw [this]; exact hx
end Go.Proofs.YtldkomeacocjbaaGreatDoor
namespace Go.Proofs.YtldkomeacocjbaaGreatDoor

/-- A row as a sum: its sign turns each eight steps. -/
def ext8 (f : Nat → Int) : Int → Int := fun k => if k % 16 < 8 then f (k % 8).toNat else -f (k % 8).toNat
theorem anti_ext8 (f : Nat → Int) : Anti (ext8 f) := fun k => by
  unfold ext8
  rw [show (k + 8) % 8 = k % 8 by omega]
  by_cases h : k % 16 < 8
  · rw [if_pos h, if_neg (by omega)]
  · rw [if_neg h, if_pos (by omega)]; omega
theorem ext8_at (f : Nat → Int) (j : Int) (h0 : 0 ≤ j) (h1 : j < 8) : ext8 f j = f j.toNat := by
  unfold ext8
  rw [if_pos (by omega), show j % 8 = j by omega]
theorem ext8_congr {f g : Nat → Int} (h : ∀ i, i < 8 → f i = g i) : ext8 f = ext8 g :=
  (anti_ext8 f).ext (anti_ext8 g) fun j h0 h1 => by rw [ext8_at f j h0 h1, ext8_at g j h0 h1, h _ (by omega)]
theorem ext8_of {a : Int → Int} (ha : Anti a) : ext8 (fun i => a i) = a :=
  (anti_ext8 _).ext ha fun j h0 h1 => by rw [ext8_at _ j h0 h1, show ((j.toNat : Nat) : Int) = j by omega]
theorem ext8_zero : ext8 (fun _ => 0) = fun _ => 0 := (anti_ext8 _).ext anti_zero fun j h0 h1 => by rw [ext8_at _ j h0 h1]
theorem ext8_abs {f : Nat → Int} {A : Nat} (h : ∀ i, i < 8 → (f i).natAbs ≤ A) (k : Int) : (ext8 f k).natAbs ≤ A := by
  unfold ext8
  have := h (k % 8).toNat (by omega)
  split <;> omega
theorem ext8_add (f : Nat → Int) (k z : Int) : ext8 (addN f k z) = addR (ext8 f) (mono k z) :=
  (anti_ext8 _).ext ((anti_ext8 f).add (anti_mono k z)) fun j h0 h1 => by
    rw [ext8_at _ j h0 h1, add_mono (ext8 f) k z j h0 h1, ext8_at f j h0 h1]
    unfold addN updN sgK
    by_cases e : j = k % 8
    · rw [if_pos (by omega), if_pos e, ← e]
    · rw [if_neg (by omega), if_neg e]

theorem ext8_mulN (f : Nat → Int) (k z : Int) (g : Nat → Int) : ext8 (mulN f k z g 8) = addR (ext8 f) (trR k fun x => z * ext8 g x) := by
  have hz : Anti fun x => z * ext8 g x := fun x => by show z * _ = _; rw [anti_ext8 g]; exact Int.mul_neg _ _
  rw [← sum_monos hz k]
  have e : ∀ i : Nat, i < 8 → ext8 g (i : Int) = g i := fun i hi => by rw [ext8_at g i (by omega) (by omega)]; rfl
  have c : ∀ i : Int, mono (k + i) (z * ext8 g i) = mono (i + k) (z * ext8 g i) := fun i => by rw [Int.add_comm]
  funext x
  simp only [mulN, ext8_add, addR, sum8, ← c]
  have e0 := e 0 (by omega); have e1 := e 1 (by omega); have e2 := e 2 (by omega); have e3 := e 3 (by omega); have e4 := e 4 (by omega); have e5 := e 5 (by omega); have e6 := e 6 (by omega); have e7 := e 7 (by omega)
  simp only [Int.cast_ofNat_Int] at e0 e1 e2 e3 e4 e5 e6 e7 ⊢
  rw [e0, e1, e2, e3, e4, e5, e6, e7]
  omega

/-- What Mul has made as far as the j-th part of the one. -/
def prN (f g : Nat → Int) : Nat → Nat → Int
  | 0 => fun _ => 0
  | j + 1 => mulN (prN f g j) j (f j) g 8
theorem ext8_prN (f g : Nat → Int) : ext8 (prN f g 8) = mulR (ext8 f) (ext8 g) := by
  have e : ∀ i : Nat, i < 8 → ext8 f (i : Int) = f i := fun i hi => by rw [ext8_at f i (by omega) (by omega)]; rfl
  funext x
  simp only [prN, ext8_mulN, addR, mulR, sum8, trR, ext8_zero]
  have e0 := e 0 (by omega); have e1 := e 1 (by omega); have e2 := e 2 (by omega); have e3 := e 3 (by omega); have e4 := e 4 (by omega); have e5 := e 5 (by omega); have e6 := e 6 (by omega); have e7 := e 7 (by omega)
  simp only [Int.cast_ofNat_Int] at e0 e1 e2 e3 e4 e5 e6 e7 ⊢
  rw [e0, e1, e2, e3, e4, e5, e6, e7]
  omega
theorem prN_abs (f g : Nat → Int) (P : Nat) (hP : ∀ i j, i < 8 → j < 8 → (f i * g j).natAbs ≤ P) : ∀ j, j ≤ 8 → ∀ i, i < 8 → (prN f g j i).natAbs ≤ j * (8 * P)
  | 0, _, i, hi => by simp [prN]
  | j + 1, hj, i, hi => by
    have h1 := mulN_abs (prN f g j) j (f j) g (j * (8 * P)) P (prN_abs f g P hP j (by omega)) (fun i hi => hP j i (by omega) hi) 8 (by omega) i hi
    simp only [prN]
    rw [Nat.succ_mul]
    exact h1

/-- What Turn has made as far as the j-th; the ninth number is what is below. -/
def trnN (f : Nat → Int) (k : Int) : Nat → Nat → Int
  | 0 => fun i => if i = 8 then f 8 else 0
  | j + 1 => addN (trnN f k j) (j + k) (f j)
theorem ext8_cut (d : Int) : ext8 (fun i => if i = 8 then d else 0) = fun _ => 0 := by
  rw [← ext8_zero]; exact ext8_congr fun i hi => if_neg (by omega)
theorem ext8_trnN (f : Nat → Int) (k : Int) : ext8 (trnN f k 8) = trR k (ext8 f) := by
  rw [← sum_monos (anti_ext8 f) k]
  have e : ∀ i : Nat, i < 8 → ext8 f (i : Int) = f i := fun i hi => by rw [ext8_at f i (by omega) (by omega)]; rfl
  funext x
  simp only [trnN, ext8_add, addR, sum8, ext8_cut]
  have e0 := e 0 (by omega); have e1 := e 1 (by omega); have e2 := e 2 (by omega); have e3 := e 3 (by omega); have e4 := e 4 (by omega); have e5 := e 5 (by omega); have e6 := e 6 (by omega); have e7 := e 7 (by omega)
  simp only [Int.cast_ofNat_Int] at e0 e1 e2 e3 e4 e5 e6 e7 ⊢
  rw [e0, e1, e2, e3, e4, e5, e6, e7]
  omega
theorem addN_far (f : Nat → Int) (k z : Int) : addN f k z 8 = f 8 := by unfold addN updN; rw [if_neg (by omega)]
theorem trnN_down (f : Nat → Int) (k : Int) : ∀ j, trnN f k j 8 = f 8
  | 0 => by simp [trnN]
  | j + 1 => by simp only [trnN]; rw [addN_far]; exact trnN_down f k j
theorem trnN_abs (f : Nat → Int) (k : Int) (A : Nat) (hA : ∀ i, i < 8 → (f i).natAbs ≤ A) : ∀ j, j ≤ 8 → ∀ i, i < 8 → (trnN f k j i).natAbs ≤ j * A
  | 0, _, i, hi => by simp only [trnN]; rw [if_neg (by omega)]; simp
  | j + 1, hj, i, hi => by
    have := addN_abs (trnN f k j) (j + k) (f j) (j * A) A (trnN_abs f k A hA j (by omega)) (hA j (by omega)) i hi
    simp only [trnN]; rw [Nat.succ_mul]; exact this

/-- What Conj has made as far as the j-th. -/
def cjN (f : Nat → Int) : Nat → Nat → Int
  | 0 => fun i => if i = 8 then f 8 else 0
  | j + 1 => addN (cjN f j) (-(j : Int)) (f j)
theorem mono_cj (k n j : Int) : mono (-k) n j = mono k n (-j) := by unfold mono; repeat (split); all_goals omega
theorem ext8_cjN (f : Nat → Int) : ext8 (cjN f 8) = cjR (ext8 f) := by
  have hs := sum_monos (anti_ext8 f) 0
  have e : ∀ i : Nat, i < 8 → ext8 f (i : Int) = f i := fun i hi => by rw [ext8_at f i (by omega) (by omega)]; rfl
  funext x
  have h2 := congrFun hs (-x)
  simp only [trR, Int.sub_zero, Int.add_zero] at h2
  unfold cjR
  rw [← h2]
  simp only [cjN, ext8_add, addR, sum8, ext8_cut]
  have e0 := e 0 (by omega); have e1 := e 1 (by omega); have e2 := e 2 (by omega); have e3 := e 3 (by omega); have e4 := e 4 (by omega); have e5 := e 5 (by omega); have e6 := e 6 (by omega); have e7 := e 7 (by omega)
  simp only [mono_cj]
  simp only [Int.cast_ofNat_Int] at e0 e1 e2 e3 e4 e5 e6 e7 ⊢
  rw [e0, e1, e2, e3, e4, e5, e6, e7]
  omega
theorem cjN_down (f : Nat → Int) : ∀ j, cjN f j 8 = f 8
  | 0 => by simp [cjN]
  | j + 1 => by simp only [cjN]; rw [addN_far]; exact cjN_down f j
theorem cjN_abs (f : Nat → Int) (A : Nat) (hA : ∀ i, i < 8 → (f i).natAbs ≤ A) : ∀ j, j ≤ 8 → ∀ i, i < 8 → (cjN f j i).natAbs ≤ j * A
  | 0, _, i, hi => by simp only [cjN]; rw [if_neg (by omega)]; simp
  | j + 1, hj, i, hi => by
    have := addN_abs (cjN f j) (-(j : Int)) (f j) (j * A) A (cjN_abs f A hA j (by omega)) (hA j (by omega)) i hi
    simp only [cjN]; rw [Nat.succ_mul]; exact this

/-- What Half has made as far as the j-th. -/
def hfN (f : Nat → Int) : Nat → Nat → Int
  | 0 => fun _ => 0
  | j + 1 => addN (addN (hfN f j) (j + 2) (f j)) (j - 2) (f j)
theorem ext8_hfN (f : Nat → Int) : ext8 (hfN f 8) = addR (trR 2 (ext8 f)) (trR (-2) (ext8 f)) := by
  have h1 := sum_monos (anti_ext8 f) 2
  have h2 := sum_monos (anti_ext8 f) (-2)
  have e : ∀ i : Nat, i < 8 → ext8 f (i : Int) = f i := fun i hi => by rw [ext8_at f i (by omega) (by omega)]; rfl
  rw [← h1, ← h2]
  funext x
  simp only [hfN, ext8_add, addR, sum8, ext8_zero, Int.sub_eq_add_neg]
  have e0 := e 0 (by omega); have e1 := e 1 (by omega); have e2 := e 2 (by omega); have e3 := e 3 (by omega); have e4 := e 4 (by omega); have e5 := e 5 (by omega); have e6 := e 6 (by omega); have e7 := e 7 (by omega)
  simp only [Int.cast_ofNat_Int] at e0 e1 e2 e3 e4 e5 e6 e7 ⊢
  rw [e0, e1, e2, e3, e4, e5, e6, e7]
  omega
theorem hfN_abs (f : Nat → Int) (A : Nat) (hA : ∀ i, i < 8 → (f i).natAbs ≤ A) : ∀ j, j ≤ 8 → ∀ i, i < 8 → (hfN f j i).natAbs ≤ j * (A + A)
  | 0, _, i, hi => by simp [hfN]
  | j + 1, hj, i, hi => by
    have h1 := addN_abs (hfN f j) (j + 2) (f j) (j * (A + A)) A (hfN_abs f A hA j (by omega)) (hA j (by omega))
    have := addN_abs _ (j - 2) (f j) _ A h1 (hA j (by omega)) i hi
    simp only [hfN]; rw [Nat.succ_mul]; omega
end Go.Proofs.YtldkomeacocjbaaGreatDoor
namespace Go.Proofs.YtldkomeacocjbaaGreatDoor

theorem ext8_scale {f V : Nat → Int} {c : Int} (h : ∀ i, i < 8 → f i = V i * c) (k : Int) : ext8 f k = ext8 V k * c := by
  unfold ext8
  have := h (k % 8).toNat (by omega)
  split
  · exact this
  · rw [this, Int.neg_mul]
theorem low_of {f V : Nat → Int} {d b : Nat} (hb : b ≤ d) (hV : ∀ i, i < 8 → f i = V i * 2 ^ b) (ho : b = d ∨ ∃ i, i < 8 ∧ V i % 2 = 1) : Low ⟨ext8 V, d - b⟩ ∧ EqN ⟨ext8 V, d - b⟩ ⟨ext8 f, d⟩ := by
  constructor
  · rcases ho with h | ⟨i, hi, h⟩
    · exact Or.inl (by show d - b = 0; omega)
    · refine Or.inr ⟨(i : Int), ?_⟩
      show ext8 V i % 2 = 1
      rw [ext8_at V i (by omega) (by omega)]
      exact h
  · intro k
    show ext8 V k * 2 ^ d = ext8 f k * 2 ^ (d - b)
    rw [ext8_scale hV k, Int.mul_assoc, ← Int.pow_add, show b + (d - b) = d by omega]
theorem low_nil {f : Nat → Int} (hf : ∀ i, i < 8 → f i = 0) (d : Nat) : Low ⟨ext8 (fun _ => 0), 0⟩ ∧ EqN ⟨ext8 (fun _ => 0), 0⟩ ⟨ext8 f, d⟩ := by
  refine ⟨Or.inl rfl, fun k => ?_⟩
  have e : ext8 f = fun _ => 0 := by rw [← ext8_zero]; exact ext8_congr hf
  show ext8 (fun _ => 0) k * 2 ^ d = ext8 f k * 2 ^ 0
  rw [e, ext8_zero]; simp

/-- Over the root of two. -/
def nHf (x : Nm) : Nm := ⟨addR (trR 2 x.a) (trR (-2) x.a), x.e + 1⟩
theorem n_half_mul {x : Nm} (hx : Anti x.a) : EqN (nHf x) (nMul x nRt) := EqN.of_eq (by
  unfold nHf nMul nRt
  rw [mulR_comm hx ((anti_one.tr 2).add (anti_one.tr (-2))), mulR_add, mulR_one hx, mulR_one hx])
/-- Over a common power. -/
theorem n_add_over {a b : Int → Int} {d e : Nat} (h : e ≤ d) : EqN ⟨addR a (fun k => b k * 2 ^ (d - e)), d⟩ (nAdd ⟨a, d⟩ ⟨b, e⟩) := fun k => by
  obtain ⟨c, rfl⟩ : ∃ c, d = e + c := ⟨d - e, by omega⟩
  rw [show e + c - e = c by omega]
  simp only [nAdd, addR, Int.pow_add]
  grind
theorem nAdd_comm (x y : Nm) : nAdd x y = nAdd y x := by
  unfold nAdd
  rw [Nat.add_comm]
  congr 1
  funext k
  rw [Int.add_comm]
theorem nNeg_tr {x : Nm} (hx : Anti x.a) : nTr 8 x = nNeg x := by
  unfold nTr nNeg
  congr 1
  funext k
  exact hx.back k
theorem Low.tr {x : Nm} (h : Low x) (m : Int) : Low (nTr m x) := by
  rcases h with h | ⟨k, h⟩
  · exact Or.inl h
  · refine Or.inr ⟨k + m, ?_⟩
    show x.a (k + m - m) % 2 = 1
    rw [show k + m - m = k by omega]; exact h
theorem Low.cj {x : Nm} (h : Low x) : Low (nCj x) := by
  rcases h with h | ⟨k, h⟩
  · exact Or.inl h
  · refine Or.inr ⟨-k, ?_⟩
    show x.a (- -k) % 2 = 1
    rw [Int.neg_neg]; exact h
theorem low_rt : Low nRt := Or.inr ⟨2, by decide⟩
theorem rt_norm : EqN (nMul nRt (nCj nRt)) ⟨oneR, 1⟩ := fun k => by
  have h : mulR nRt.a (cjR nRt.a) = fun k => 2 * oneR k := by
    refine Anti.ext (((anti_one.tr 2).add (anti_one.tr (-2))).cj.mul) (fun k => by rw [anti_one]; omega) fun j h0 h1 => ?_
    have : j = 0 ∨ j = 1 ∨ j = 2 ∨ j = 3 ∨ j = 4 ∨ j = 5 ∨ j = 6 ∨ j = 7 := by omega
    rcases this with rfl | rfl | rfl | rfl | rfl | rfl | rfl | rfl <;> decide
  show mulR nRt.a (cjR nRt.a) k * 2 ^ 1 = oneR k * 2 ^ 2
  rw [h]
  show 2 * oneR k * 2 ^ 1 = oneR k * 2 ^ 2
  omega
theorem low_half1 : Low ⟨oneR, 1⟩ := Or.inr ⟨0, by decide⟩
theorem root_8_0 : EqN (nAdd (nTr 8 nOne) (nTr 0 nOne)) ⟨fun _ => 0, 0⟩ := fun k => by
  have := anti_one.back k
  simp only [nAdd, nTr, nOne, trR, this]
  simp
  omega
/-- A number is nought just where all its parts are. -/
theorem EqN.zero {x y : Nm} (h : EqN x y) : (∀ k, x.a k = 0) ↔ ∀ k, y.a k = 0 := by
  constructor
  · intro hz k
    have h1 := h k
    rw [hz, Int.zero_mul] at h1
    exact (Int.mul_eq_zero.1 h1.symm).resolve_right (two_ne _)
  · intro hz k
    have h1 := h k
    rw [hz, Int.zero_mul] at h1
    exact (Int.mul_eq_zero.1 h1).resolve_right (two_ne _)
end Go.Proofs.YtldkomeacocjbaaGreatDoor
namespace Go.Proofs.YtldkomeacocjbaaGreatDoor
open Go.RowKit

theorem setRow_only (w : World) (g : Nat) (cs : Array Value) : Only g w (w.setRow g cs) where
  os := rfl
  tape := rfl
  output := rfl
  size := by simp
  block := fun k hk => setRow_other w g k cs hk

/-- These cells are m numbers side by side: f 0, f 1, .. -/
def CellsA (w : World) (cs : Array Value) (m : Nat) (f : Nat → Int) : Prop := cs.size = 2 * m ∧
  ∀ i, i < m → ∃ (s : Int) (a : Option Addr) (n c : Nat), cs[i * 2]? = some (.int .i64 s) ∧ cs[i * 2 + 1]? = some (.slice a n c) ∧ IsInt w s a n c (f i)
theorem CellsA.ext {w w' : World} {cs : Array Value} {m : Nat} {f : Nat → Int} (h : CellsA w cs m f) (k : Ext w w') : CellsA w' cs m f :=
  ⟨h.1, fun i hi => by obtain ⟨s, a, n, c, q1, q2, q3⟩ := h.2 i hi; exact ⟨s, a, n, c, q1, q2, q3.ext k⟩⟩
theorem CellsA.keep64 {w w' : World} {cs : Array Value} {m : Nat} {f : Nat → Int} (h : CellsA w cs m f) (k : Keep64 w w') : CellsA w' cs m f :=
  ⟨h.1, fun i hi => by obtain ⟨s, a, n, c, q1, q2, q3⟩ := h.2 i hi; exact ⟨s, a, n, c, q1, q2, q3.keep64 k⟩⟩
theorem CellsA.congr {w : World} {cs : Array Value} {m : Nat} {f f' : Nat → Int} (h : CellsA w cs m f) (e : ∀ i, i < m → f i = f' i) : CellsA w cs m f' :=
  ⟨h.1, fun i hi => by obtain ⟨s, a, n, c, q1, q2, q3⟩ := h.2 i hi; exact ⟨s, a, n, c, q1, q2, q3.cast (e i hi)⟩⟩
theorem CellsA.at {w : World} {cs : Array Value} {m : Nat} {f : Nat → Int} (h : CellsA w cs m f) (j : Nat) (hj : j < cs.size) : (∃ s : Int, cs[j]? = some (.int .i64 s)) ∨ ∃ (a : Option Addr) (n c : Nat), cs[j]? = some (.slice a n c) := by
  have h1 := h.1
  obtain ⟨s, a, n, c, q1, q2, _⟩ := h.2 (j / 2) (by omega)
  by_cases e : j % 2 = 0
  · rw [show j / 2 * 2 = j by omega] at q1; exact Or.inl ⟨s, q1⟩
  · rw [show j / 2 * 2 + 1 = j by omega] at q2; exact Or.inr ⟨a, n, c, q2⟩
theorem CellsA.one {w : World} {cs : Array Value} {m : Nat} {f : Nat → Int} (h : CellsA w cs m f) : cs.all (·.oneCell') = true := by
  rw [Array.all_eq_true]
  intro j hj
  rcases h.at j hj with ⟨s, e⟩ | ⟨a, n, c, e⟩
  · rw [Array.getElem?_eq_getElem hj] at e; rw [Option.some.inj e]; rfl
  · rw [Array.getElem?_eq_getElem hj] at e; rw [Option.some.inj e]; rfl
theorem CellsA.words {w : World} {cs : Array Value} {m : Nat} {f : Nat → Int} (h : CellsA w cs m f) (i : Nat) (x : Int) : cs[i]? ≠ some (Value.int .u64 x) := by
  by_cases hi : i < cs.size
  · rcases h.at i hi with ⟨s, e⟩ | ⟨a, n, c, e⟩ <;> (rw [e]; intro h; cases h)
  · rw [Array.getElem?_eq_none (by omega)]; intro h; cases h
theorem CellsA.nums {w : World} {g : Nat} {t : TypeId} {cs : Array Value} {m : Nat} {f : Nat → Int} (h : CellsA w cs m f) (hr : w.heap[g]? = some (.cells cs t (0, 0))) : Nums w g m t f := ⟨cs, hr, h.1, h.2⟩
theorem Nums.cells {w : World} {g : Nat} {t : TypeId} {m : Nat} {f : Nat → Int} (h : Nums w g m t f) : ∃ cs, w.heap[g]? = some (.cells cs t (0, 0)) ∧ CellsA w cs m f := by
  obtain ⟨cs, h1, h2, h3⟩ := h; exact ⟨cs, h1, h2, h3⟩
theorem CellsA.box {w : World} {cs : Array Value} {m : Nat} {f : Nat → Int} (h : CellsA w cs m f) (t : TypeId) : Nums (w.alloc (.cells cs t)) w.heap.size m t f := (h.ext (Ext.alloc _ _)).nums (heap_alloc_new w _)
/-- Written over. -/
theorem CellsA.setRow {w : World} {g : Nat} {t : TypeId} {cs : Array Value} {m m0 : Nat} {f f0 : Nat → Int} (h : CellsA w cs m f) (h0 : Nums w g m0 t f0) : Nums (w.setRow g cs) g m t f ∧ Chg g w (w.setRow g cs) ∧ (w.setRow g cs).heap[g]? = some (.cells cs t (0, 0)) := by
  obtain ⟨c0, hr, hc⟩ := h0.cells
  have hk := keep_only (setRow_only w g cs) hr (CellsA.words hc)
  have hrow := setRow_heap w g _ cs t (0, 0) hr
  exact ⟨(h.keep64 hk).nums hrow, Chg.of_only (setRow_only w g _) hk, hrow⟩
/-- The first eight of them: a row. -/
theorem CellsA.row8 {w : World} {cs : Array Value} {m : Nat} {f : Nat → Int} (h : CellsA w cs m f) (hm : 8 ≤ m) : CellsA w (cs.toList.take 16).toArray 8 f := by
  have h1 := h.1
  refine ⟨by simp; omega, fun i hi => ?_⟩
  obtain ⟨s, a, n, c, q1, q2, q3⟩ := h.2 i (by omega)
  refine ⟨s, a, n, c, ?_, ?_, q3⟩
  · simp only [List.getElem?_toArray, List.getElem?_take]; rw [if_pos (by omega)]; simpa using q1
  · simp only [List.getElem?_toArray, List.getElem?_take]; rw [if_pos (by omega)]; simpa using q2
theorem range8 {w : World} {g : Nat} {t : TypeId} {cs : Array Value} (hr : w.heap[g]? = some (.cells cs t (0, 0))) : w.rangeAt g 0 (cs.toList.take 16) := by
  intro j v hv
  rw [cell_of_row w g _ cs t (0, 0) hr, Nat.zero_add]
  rw [List.getElem?_take] at hv
  split at hv
  · simpa using hv
  · cases hv
/-- A row of sixteen cells, and two behind it. -/
theorem CellsA.snoc {w : World} {cs : Array Value} {f : Nat → Int} {s : Int} {a : Option Addr} {n c : Nat} {z : Int} (h : CellsA w cs 8 f) (hz : IsInt w s a n c z) : CellsA w (cs ++ #[.int .i64 s, .slice a n c]) 9 (fun i => if i = 8 then z else f i) := by
  have h1 := h.1
  refine ⟨by simp; omega, fun i hi => ?_⟩
  by_cases e : i = 8
  · subst e
    refine ⟨s, a, n, c, ?_, ?_, by show IsInt w s a n c (if 8 = 8 then z else f 8); rw [if_pos rfl]; exact hz⟩
    · rw [Array.getElem?_append_right (by omega), show 8 * 2 - cs.size = 0 by omega]; rfl
    · rw [Array.getElem?_append_right (by omega), show 8 * 2 + 1 - cs.size = 1 by omega]; rfl
  · obtain ⟨s', a', n', c', q1, q2, q3⟩ := h.2 i (by omega)
    refine ⟨s', a', n', c', ?_, ?_, by show IsInt w s' a' n' c' (if i = 8 then z else f i); rw [if_neg e]; exact q3⟩
    · rw [Array.getElem?_append_left (by omega)]; exact q1
    · rw [Array.getElem?_append_left (by omega)]; exact q2
theorem isInt_zero (w : World) : IsInt w 0 none 0 0 0 := Or.inl ⟨rfl, rfl, rfl, rfl, by decide, by decide⟩
abbrev zero9 : Array Value := #[.int .i64 0, .slice none 0 0, .int .i64 0, .slice none 0 0, .int .i64 0, .slice none 0 0, .int .i64 0, .slice none 0 0, .int .i64 0, .slice none 0 0, .int .i64 0, .slice none 0 0, .int .i64 0, .slice none 0 0, .int .i64 0, .slice none 0 0, .int .i64 0, .slice none 0 0]
abbrev zero8 : Array Value := #[.int .i64 0, .slice none 0 0, .int .i64 0, .slice none 0 0, .int .i64 0, .slice none 0 0, .int .i64 0, .slice none 0 0, .int .i64 0, .slice none 0 0, .int .i64 0, .slice none 0 0, .int .i64 0, .slice none 0 0, .int .i64 0, .slice none 0 0]
theorem cells_zero9 (w : World) : CellsA w zero9 9 (fun _ => 0) := by
  refine ⟨rfl, fun i hi => ⟨0, none, 0, 0, ?_, ?_, isInt_zero w⟩⟩
  all_goals
    have e : i = 0 ∨ i = 1 ∨ i = 2 ∨ i = 3 ∨ i = 4 ∨ i = 5 ∨ i = 6 ∨ i = 7 ∨ i = 8 := by omega
    rcases e with rfl | rfl | rfl | rfl | rfl | rfl | rfl | rfl | rfl <;> rfl
theorem cells_zero8 (w : World) : CellsA w zero8 8 (fun _ => 0) := by
  refine ⟨rfl, fun i hi => ⟨0, none, 0, 0, ?_, ?_, isInt_zero w⟩⟩
  all_goals
    have e : i = 0 ∨ i = 1 ∨ i = 2 ∨ i = 3 ∨ i = 4 ∨ i = 5 ∨ i = 6 ∨ i = 7 := by omega
    rcases e with rfl | rfl | rfl | rfl | rfl | rfl | rfl | rfl <;> rfl
theorem rnum_info : (Tryz.prog.info? 28).map (·.size) = some 18 := by kernel_rfl
theorem rrow_info : (Tryz.prog.info? 26).map (·.size) = some 16 := by kernel_rfl

/-- The cells of a number of circuits that stands for x: kept as it must be; its multiples are below 2^P, its power is at most E. -/
def nmF (x : Nm) : Nat → Int := fun i => if i = 8 then (x.e : Int) else x.a i
structure NmA (w : World) (cs : Array Value) (x : Nm) (P E : Nat) : Prop where
  anti : Anti x.a
  low : Low x
  abs : ∀ k, (x.a k).natAbs < 2 ^ P
  down : x.e ≤ E
  val : CellsA w cs 9 (nmF x)
theorem NmA.ext {w w' : World} {cs : Array Value} {x : Nm} {P E : Nat} (h : NmA w cs x P E) (k : Ext w w') : NmA w' cs x P E := ⟨h.anti, h.low, h.abs, h.down, h.val.ext k⟩
theorem NmA.keep64 {w w' : World} {cs : Array Value} {x : Nm} {P E : Nat} (h : NmA w cs x P E) (k : Keep64 w w') : NmA w' cs x P E := ⟨h.anti, h.low, h.abs, h.down, h.val.keep64 k⟩
theorem ext8_nmF {x : Nm} (h : Anti x.a) : ext8 (nmF x) = x.a := by
  rw [← ext8_of h]
  exact ext8_congr fun i hi => if_neg (by omega)
theorem nmF_abs {x : Nm} {P : Nat} (h : ∀ k, (x.a k).natAbs < 2 ^ P) : ∀ i, i < 8 → (nmF x i).natAbs < 2 ^ P := fun i hi => by
  unfold nmF; rw [if_neg (by omega)]; exact h _
end Go.Proofs.YtldkomeacocjbaaGreatDoor
namespace Go.Proofs.YtldkomeacocjbaaGreatDoor
open Go.RowKit

theorem fit_pow {K P : Nat} {z : Int} (h : z.natAbs < 2 ^ P) (hP : P ≤ 64 * K) : Fit K z := by
  unfold Fit
  have h1 : 2 ^ P ≤ 2 ^ (64 * K) := Nat.pow_le_pow_right (by decide) hP
  have h2 : B64 ^ K = 2 ^ (64 * K) := by rw [Nat.pow_mul]; rfl
  omega
theorem fit_small {K : Nat} {z : Int} (h : z.natAbs ≤ 9223372036854775808) (hK : 1 ≤ K) : Fit K z := fit_pow (P := 64) (by omega) (by omega)
theorem CmpK_is {w : World} {s1 s2 : Int} {a1 a2 : Option Addr} {n1 c1 n2 c2 : Nat} {z1 z2 : Int} (k : Int) (h1 : IsInt w s1 a1 n1 c1 z1) (h2 : IsInt w s2 a2 n2 c2 z2) (K : Nat) (hK : K ≤ 4194304) (hf1 : Fit K z1) (hf2 : Fit K z2) (hk : cmp3 z1 z2 = k) :
    Calls Tryz.prog 70 #[.agg #[.int .i64 s1, .slice a1 n1 c1], .agg #[.int .i64 s2, .slice a2 n2 c2]] w fun e w' => e = .returned (.int .i64 k) ∧ Ext w w' := by
  rw [← hk]
  exact Cmp_any s1 s2 a1 a2 n1 c1 n2 c2 z1 z2 w h1 h2 K hK hf1 hf2
theorem min_cases (t d : Nat) : ∃ b : Nat, b = min t d ∧ ((d < t ∧ b = d) ∨ (t ≤ d ∧ b = t)) := ⟨min t d, rfl, by omega⟩
/-- Divided so often. -/
def dvN (f : Nat → Int) (b : Nat) : Nat → Int := fun i => f i / (2 ^ b : Nat)
theorem dvN_mul {f : Nat → Int} {b i : Nat} (h : 2 ^ b ∣ (f i).natAbs) : f i = dvN f b i * 2 ^ b := by
  unfold dvN
  have h1 : ((2 ^ b : Nat) : Int) ∣ f i := Int.ofNat_dvd_left.2 h
  have := Int.ediv_mul_cancel h1
  rw [Int.natCast_pow] at this
  rw [Int.natCast_pow]
  exact this.symm
theorem dvN_abs {f : Nat → Int} {b i : Nat} : (dvN f b i).natAbs ≤ (f i).natAbs := by
  unfold dvN
  exact Int.natAbs_ediv_le_natAbs _ _
theorem dvN_shv {f : Nat → Int} {b i : Nat} (hb : 0 < b) (h : 2 ^ b ∣ (f i).natAbs) : ShV (-(b : Int)) (f i) (dvN f b i) := by
  refine Or.inr ⟨by omega, ?_⟩
  rw [show (-(-(b : Int))).toNat = b by omega, Int.natCast_pow]
  exact dvN_mul h
theorem dvN_odd {f : Nat → Int} {b i : Nat} (h : Tw (f i).natAbs b) : dvN f b i % 2 = 1 := by
  obtain ⟨m, hm⟩ := h
  have h1 := dvN_mul (f := f) (b := b) (i := i) (by rw [hm]; exact Nat.dvd_mul_right _ _)
  have h2 : (f i).natAbs = (dvN f b i).natAbs * 2 ^ b := by
    have := congrArg Int.natAbs h1
    rw [Int.natAbs_mul, Int.natAbs_pow] at this
    exact this
  rw [hm, Nat.mul_comm] at h2
  have h3 := Nat.eq_of_mul_eq_mul_right (Nat.pow_pos (by decide)) h2
  omega

set_option maxRecDepth 100000 in
set_option maxHeartbeats 4000000 in
theorem rlowest_any (cp : Array Value) (s : Int) (a : Option Addr) (n c : Nat) (f : Nat → Int) (d : Nat) (w : World) (hc : CellsA w cp 8 f) (hI : IsInt w s a n c (d : Int)) (K P E : Nat) (hK : K ≤ 4194304) (hK1 : 1 ≤ K) (hP : P ≤ 64 * K) (hE : E ≤ 1099511627776) (hA : ∀ i, i < 8 → (f i).natAbs < 2 ^ P) (hd : d ≤ E) (hbr : Bru w) :
    Calls Tryz.prog 76 #[.agg cp, .agg #[.int .i64 s, .slice a n c]] w fun e w' => ∃ (cr : Array Value) (x : Nm), e = .returned (.agg cr) ∧ NmA w' cr x P E ∧ EqN x ⟨ext8 f, d⟩ ∧ Ext w w' := by
  have HI := Lib.hid hI; have HK := Lib.hid hK; have HK1 := Lib.hid hK1; have HA := Lib.hid hA; have Hd := Lib.hid hd; have HE := Lib.hid hE; have Hbr := Lib.hid hbr
  have HF : Hid (∀ i, i < 8 → Fit K (f i)) := Lib.hid fun i hi => fit_pow (hA i hi) hP
  have HFd : Hid (Fit K (d : Int)) := Lib.hid (fit_small (z := (d : Int)) (by omega) hK1)
  have hcs := hc.1
  obtain ⟨H, hH⟩ : ∃ H, w.heap.size = H := ⟨_, rfl⟩
  obtain ⟨U, hU⟩ : ∃ U, ((w.alloc (.cells cp 26)).alloc (.cells #[.int .i64 s, .slice a n c] 24)).alloc (.cells zero9 28) = U := ⟨_, rfl⟩
  have E0 : Ext w U := by rw [← hU]; exact ((Ext.alloc _ _).trans (Ext.alloc _ _)).trans (Ext.alloc _ _)
  have N0 : Nums U H 8 26 f := by rw [← hU, ← hH]; exact (hc.box 26).ext ((Ext.alloc _ _).trans (Ext.alloc _ _))
  have B0 : Box U (H + 1) s a n c := by
    have := box_new (w.alloc (.cells cp 26)) s a n c
    rw [← hU, ← hH]
    have h2 := this.ext (Ext.alloc _ (.cells zero9 28))
    simpa using h2
  have Z0 : Nums U (H + 2) 9 28 (fun _ => 0) := by
    have := (cells_zero9 ((w.alloc (.cells cp 26)).alloc (.cells #[.int .i64 s, .slice a n c] 24))).box 28
    rw [← hU, ← hH]
    simpa using this
  have HU := Lib.hid hU; have HE0 := Lib.hid E0; have HN0 := Lib.hid N0; have HB0 := Lib.hid B0; have HZ0 := Lib.hid Z0; have HH := Lib.hid hH
  have HgB : Hid (∀ w' : World, Ext w w' → Bru w') := Lib.hid fun w' h => bru_ext hbr h
  have HgH : Hid (Tryz.lays29_ren.g 1 ≠ H) := Lib.hid (by
    intro e
    have h1 := hbr 0 (by decide)
    rw [← hH] at e
    simp [World.cell?, e] at h1)
  clear hU E0 N0 B0 Z0 hH hI hK hK1 hA hd hE hbr hP hc
  go_enter Tryz.func76, Tryz.ntmps76
  go_wp2_with fail
  rw [HU.out, HH.out]
  clear HU hcs
  by_cases hz : zeroN f
  · have HZ := Lib.hid (rowZero_yes H 8 _ f U HN0.out (by decide) true (by simp [hz]))
    refine HZ.out.mono ?_
    rintro e w1 ⟨rfl, hx1⟩
    have z1 := HZ0.out.ext hx1
    obtain ⟨c1, hr1, hc1⟩ := z1.cells
    have hs1 := hc1.1
    obtain ⟨nn, ch, rr⟩ := (cells_zero9 w1).setRow z1
    have Hend := Lib.hid (show NmA (w1.setRow (H + 2) zero9) zero9 ⟨ext8 (fun _ => 0), 0⟩ P E ∧ EqN ⟨ext8 (fun _ => 0), 0⟩ ⟨ext8 f, d⟩ ∧ Ext w (w1.setRow (H + 2) zero9) from
      ⟨⟨anti_ext8 (fun _ => 0), (low_nil hz d).1, fun k => by rw [ext8_zero]; exact Nat.pow_pos (by decide), Nat.zero_le _, (cells_zero9 _).congr fun i hi => by
          unfold nmF; split
          · rfl
          · rw [ext8_zero]⟩, (low_nil hz d).2, ch.ext (HE0.out.trans hx1) (by rw [HH.out]; omega)⟩)
    clear nn ch hc1 z1 hx1 HZ hz
    go_wp2_with (refine wpList_store_row rfl 28 _ _ rfl (H + 2) zero9 rfl rfl 28 _ hr1 rnum_info hs1 (cells_zero9 w1).one ?_)
    refine bodyPost_ret (v := .agg zero9) ?_ rfl ⟨zero9, _, rfl, Hend.out⟩
    exact results_cell_row rfl _ _ (H + 2) _ _ _ _ rfl rr Tryz.underlying28 rfl rnum_info
  have HZ := Lib.hid (rowZero_yes H 8 _ f U HN0.out (by decide) false (by simp [hz]))
  refine HZ.out.mono ?_
  rintro e w1 ⟨rfl, hx1⟩
  have HE1 := Lib.hid (HE0.out.trans hx1); have HN1 := Lib.hid (HN0.out.ext hx1); have HB1 := Lib.hid (HB0.out.ext hx1); have HZ1 := Lib.hid (HZ0.out.ext hx1)
  clear hx1 HE0 HN0 HB0 HZ0 HZ
  have HT := Lib.hid (rowTwos_any H 8 _ f w1 HN1.out (by decide) K HK.out HF.out (HgB.out _ HE1.out))
  go_wp2_with fail
  refine HT.out.mono ?_
  rintro e w2 ⟨⟨T, rfl, hT⟩, hx2⟩
  obtain ⟨t, rfl, htB, htd, hto⟩ : ∃ t : Nat, T = (t : Int) ∧ t < 64 * K + 64 ∧ (∀ i, i < 8 → 2 ^ t ∣ (f i).natAbs) ∧ ∃ i, i < 8 ∧ Tw (f i).natAbs t := by
    rcases hT with ⟨_, h⟩ | h
    · exact absurd h hz
    · exact h
  have HE2 := Lib.hid (HE1.out.trans hx2); have HN2 := Lib.hid (HN1.out.ext hx2); have HB2 := Lib.hid (HB1.out.ext hx2); have HZ2 := Lib.hid (HZ1.out.ext hx2)
  have Hto := Lib.hid hto; have Htd := Lib.hid htd; have HtB := Lib.hid (show t < 268435520 by have := HK.out; omega)
  clear hx2 HE1 HN1 HB1 HZ1 HT hT hz hto htd htB
  obtain ⟨b, hb0, hbc⟩ := min_cases t d
  have Hb := Lib.hid hb0; have Hbc := Lib.hid hbc
  clear hb0 hbc
  obtain ⟨k, hk⟩ : ∃ k, cmp3 (d : Int) (t : Int) = k := ⟨_, rfl⟩
  have Hk := Lib.hid hk
  clear hk
  have l0 := HB2.out.c0; have l1 := HB2.out.c1; have lB := HB2.out.lt
  have HI2 := Lib.hid (HI.out.ext HE2.out)
  go_upto_region 4 with fail
  have h0d : Ext w2 w2.drew := Below.drew (Ext.refl _)
  go_region_held3 (fun w' => w'.cell? ⟨H + 1, 0, none⟩ = some (.int .i64 s) ∧ w'.cell? ⟨H + 1, 1, none⟩ = some (.slice a n c))
    (exact ⟨cellKeep (W := w2) (by assumption) lB l0, cellKeep (W := w2) (by assumption) lB l1⟩)
    (first
      | (have _ := qv0; go_at_call 70; refine (CmpK_is k (HI2.out.ext hv0) Kv0 K HK.out HFd.out (fit_small (z := (t : Int)) (by have := HtB.out; omega) HK1.out) Hk.out).mono ?_; rintro e v1 ⟨rfl, qv1⟩; have hv1 : Ext w2 v1 := hv0.trans qv1)
      | (go_at_call 44; refine (Of_any (t : Int) (by have := HtB.out; omega) (by have := HtB.out; omega) _).mono ?_; rintro e v0 ⟨rfl, Kv0, qv0⟩; have hv0 : Ext w2 v0 := Ext.trans (by assumption) qv0))
  clear Kv0
  go_upto_if 13 with fail
  go_cut [5] from 13 to 18 (fun s5 wx => s5 = .int .i64 (b : Int) ∧ Ext w2 wx)
  case first =>
    by_cases hlt : d < t
    · have b1 : k < 0 := by rw [← Hk.out, cmp3_lt (by omega)]; decide
      have hbd : d = b := by have := Hbc.out; omega
      have Hbd := Lib.hid hbd
      have p0 := cellKeep hv1 lB l0; have p1 := cellKeep hv1 lB l1
      have HSm := Lib.hid (Small_any s a n c (d : Int) v1 (HI2.out.ext hv1))
      rw [if_pos (by have := Hd.out; have := HE.out; omega)] at HSm
      clear hbd hlt
      go_wp2_with fail
      refine HSm.out.mono ?_
      rintro e v2 ⟨rfl, qv2⟩
      go_wp2_with fail
      go_meet
      exact ⟨by rw [Hbd.out], hv1.trans qv2⟩
    · have b1 : ¬ k < 0 := by rw [← Hk.out]; unfold cmp3; rw [if_neg (by omega)]; split <;> decide
      have hbt : t = b := by have := Hbc.out; omega
      have Hbt := Lib.hid hbt
      clear hbt hlt
      go_wp2_with fail
      go_meet
      exact ⟨by rw [Hbt.out], hv1⟩
  case rest =>
  obtain ⟨rfl, hx3⟩ := hcut
  obtain ⟨w3, rfl⟩ : ∃ w3 : World, w3 = wc := ⟨_, rfl⟩
  have HE3 := Lib.hid (HE2.out.trans hx3); have HN3 := Lib.hid (HN2.out.ext hx3); have HB3 := Lib.hid (HB2.out.ext hx3); have HZ3 := Lib.hid (HZ2.out.ext hx3); have HI3 := Lib.hid (HI2.out.ext hx3)
  clear hx3 HE2 HN2 HB2 HZ2 HI2 l0 l1 lB Hk
  have Hbd : Hid (b ≤ d ∧ b ≤ t) := Lib.hid (by have := Hb.out; omega)
  have Hdv : Hid (∀ i, i < 8 → 2 ^ b ∣ (f i).natAbs) := Lib.hid fun i hi => Nat.dvd_trans (Nat.pow_dvd_pow 2 Hbd.out.2) (Htd.out i hi)
  have Hodd : Hid (b = d ∨ ∃ i, i < 8 ∧ dvN f b i % 2 = 1) := Lib.hid (by
    rcases Hbc.out with ⟨_, h⟩ | ⟨_, h⟩
    · exact Or.inl h
    · obtain ⟨i, hi, ht⟩ := Hto.out
      exact Or.inr ⟨i, hi, dvN_odd (by rw [h]; exact ht)⟩)
  have HbB : Hid (b ≤ 1099511627776) := Lib.hid (by have := Hbd.out; have := Hd.out; have := HE.out; omega)
  clear Htd Hto Hbc Hb HtB
  go_upto_if 20 with fail
  go_cut [] from 20 to 27 (fun wx => ∃ (s' : Int) (a' : Option Addr) (n' c' : Nat), Nums wx H 8 26 (dvN f b) ∧ Box wx (H + 1) s' a' n' c' ∧ IsInt wx s' a' n' c' ((d : Int) - b) ∧ Nums wx (H + 2) 9 28 (fun _ => 0) ∧ Ext w wx)
  case first =>
    by_cases hb0 : b = 0
    · subst hb0
      go_wp2_with fail
      go_meet
      exact ⟨s, a, n, c, HN3.out.congr fun i hi => by unfold dvN; simp, HB3.out, HI3.out.cast (by omega), HZ3.out, HE3.out⟩
    have b1 : (0 : Int) < (b : Int) := by omega
    have HbP := Lib.hid (show 0 < b by omega)
    have wn : IntKind.i64.wrap (-(b : Int)) = -(b : Int) := by have := HbB.out; rw [IntKind.wrap_i64]; omega
    have HSh := Lib.hid (rowShift_any H 8 _ f (dvN f b) (-(b : Int)) w3 HN3.out (by decide) K HK.out HK1.out HF.out (fun i hi => by
      have h1 := HF.out i hi; have h2 := dvN_abs (f := f) (b := b) (i := i)
      unfold Fit at h1 ⊢; omega) (by have := HbB.out; omega) (by have := HbB.out; omega) (fun i hi => dvN_shv HbP.out (Hdv.out i hi)) (HgB.out _ HE3.out) HgH.out)
    clear hb0
    go_wp2_with fail
    refine HSh.out.mono ?_
    rintro e w4 ⟨rfl, hN4, hC4⟩
    have HN4 := Lib.hid (hN4.congr (f' := dvN f b) fun i hi => by unfold shN; rw [if_pos hi])
    have hlB := HB3.out.lt
    have HB4 : Hid (Box w4 (H + 1) s a n c) := Lib.hid ⟨(hC4.block (H + 1) (by omega) HB3.out.lt).trans HB3.out.row⟩
    have HZ4 := Lib.hid (HZ3.out.chg hC4 (by omega)); have HI4 := Lib.hid (HI3.out.keep64 hC4.keep); have HE4 := Lib.hid (hC4.ext HE3.out (by rw [HH.out]; exact Nat.le_refl _))
    clear hN4 hC4 HN3 HB3 HZ3 HI3 HE3 HSh wn b1 hlB
    have l0 := HB4.out.c0; have l1 := HB4.out.c1; have lB := HB4.out.lt
    have HOf := Lib.hid (fun wx => Of_any (b : Int) (by have := HbB.out; omega) (by have := HbB.out; omega) wx)
    have HSu := Lib.hid (fun (wx : World) (hx : Ext w4 wx) (ib : IsInt wx (b : Int) none 0 0 (b : Int)) => Sub_any s (b : Int) a none n c 0 0 (d : Int) (b : Int) wx (HI4.out.ext hx) ib K HK.out HFd.out (fit_small (z := (b : Int)) (by have := HbB.out; omega) HK1.out))
    go_upto_region 8 with fail
    have hd0 : Ext w4 w4.drew := Below.drew (Ext.refl _)
    refine wp_region_K 4 (fun w' => w'.cell? ⟨H + 1, 0, none⟩ = some (.int .i64 s) ∧ w'.cell? ⟨H + 1, 1, none⟩ = some (.slice a n c)) (by kernel_rfl) ?_
    show anyK _ _ _ _ _ _ 5 #[false, false, false, false, false] _ _
    have hHeld : w4.drew.cell? ⟨H + 1, 0, none⟩ = some (.int .i64 s) ∧ w4.drew.cell? ⟨H + 1, 1, none⟩ = some (.slice a n c) := ⟨cellKeep hd0 lB l0, cellKeep hd0 lB l1⟩
    refine anyK_take (i := 0) (v := ?_) rfl (by kernel_rfl) (by kernel_rfl) (by kernel_rfl) (N := 5) (by kernel_rfl) (by kernel_rfl) (by kernel_rfl) (fun _ _ _ h => h) (Or.inl ⟨by rfl, ?_⟩) hHeld ?_
    rotate_left 1
    · intro w hSw
      go_simp
      try with_reducible rfl
    show anyK _ _ _ _ _ _ _ _ (Act.put _ (some 24) _) _
    simp only [Act.put, List.setIfInBounds_toArray, List.set_cons_zero, List.set_cons_succ]
    refine anyK_take (i := 1) (v := ?_) rfl (by kernel_rfl) (by kernel_rfl) (by kernel_rfl) (N := 5) (by kernel_rfl) (by kernel_rfl) (by kernel_rfl) (fun _ _ _ h => h) (Or.inl ⟨by rfl, ?_⟩) hHeld ?_
    rotate_left 1
    · intro w hSw
      go_simp
      try with_reducible rfl
    show anyK _ _ _ _ _ _ _ _ (Act.put _ (some 25) _) _
    simp only [Act.put, List.setIfInBounds_toArray, List.set_cons_zero, List.set_cons_succ]
    clear hHeld
    refine anyK_one (i := 2) (by kernel_rfl) rfl (fun Kk hKk => ?_)
    go_simp
    (go_at_call 44; refine (HOf.out w4.drew).mono ?_; rintro e w5 ⟨rfl, ib5, hx5⟩)
    have he5 := hd0.trans hx5
    go_wp2_with fail
    refine hKk.out _ _ (fun _ => ⟨cellKeep he5 lB l0, cellKeep he5 lB l1⟩) ?_
    clear hKk Kk
    simp only [List.setIfInBounds_toArray, List.set_cons_zero, List.set_cons_succ]
    refine anyK_one (i := 3) (by kernel_rfl) rfl (fun Kk hKk => ?_)
    go_simp
    (go_at_call 78; refine (HSu.out w5 he5 ib5).mono ?_; rintro e w6 ⟨s3, a3, n3, c3, rfl, hI6, hx6⟩)
    have he6 := he5.trans hx6
    go_wp2_with fail
    refine hKk.out _ _ (fun _ => ⟨cellKeep he6 lB l0, cellKeep he6 lB l1⟩) ?_
    clear hKk Kk
    simp only [List.setIfInBounds_toArray, List.set_cons_zero, List.set_cons_succ]
    have bx := HB4.out.ext he6
    have x0 := bx.c0; have x1 := bx.c1; have g0 := bx.f0; have g1 := bx.f1
    refine anyK_one (i := 4) (by kernel_rfl) rfl (fun Kk hKk => ?_)
    refine stepK_storeW rfl rfl _ _ rfl (H + 1) 0 s3 a3 n3 c3 _ _ rfl rfl x0 x1 g0 g1 ?_
    refine hKk.out _ _ (fun h => Bool.noConfusion (show true = false from h)) ?_
    clear hKk Kk
    simp only [List.setIfInBounds_toArray, List.set_cons_zero, List.set_cons_succ]
    refine anyK_done (by kernel_rfl) ?_ _
    have hkp : Keep64 w6 ((w6.setCell ⟨H + 1, 0, none⟩ (.int .i64 s3)).setCell ⟨H + 1, 1, none⟩ (.slice a3 n3 c3)) := Keep64.set2 (.i64 x0) (.slice x1) (notW_i64 s3) (.slice a3 n3 c3)
    have hP : Only (H + 1) w6 ((w6.setCell ⟨H + 1, 0, none⟩ (.int .i64 s3)).setCell ⟨H + 1, 1, none⟩ (.slice a3 n3 c3)) := ((Only.refl _ _).setCell _ _).setCell _ _
    have Hend := Lib.hid (show Nums ((w6.setCell ⟨H + 1, 0, none⟩ (.int .i64 s3)).setCell ⟨H + 1, 1, none⟩ (.slice a3 n3 c3)) H 8 26 (dvN f b) ∧ Box ((w6.setCell ⟨H + 1, 0, none⟩ (.int .i64 s3)).setCell ⟨H + 1, 1, none⟩ (.slice a3 n3 c3)) (H + 1) s3 a3 n3 c3 ∧ IsInt ((w6.setCell ⟨H + 1, 0, none⟩ (.int .i64 s3)).setCell ⟨H + 1, 1, none⟩ (.slice a3 n3 c3)) s3 a3 n3 c3 ((d : Int) - b) ∧ Nums ((w6.setCell ⟨H + 1, 0, none⟩ (.int .i64 s3)).setCell ⟨H + 1, 1, none⟩ (.slice a3 n3 c3)) (H + 2) 9 28 (fun _ => 0) ∧ Ext w ((w6.setCell ⟨H + 1, 0, none⟩ (.int .i64 s3)).setCell ⟨H + 1, 1, none⟩ (.slice a3 n3 c3)) from
      ⟨(HN4.out.ext he6).put hP (by omega) hkp, bx.own s3 a3 n3 c3, hI6.keep64 hkp, (HZ4.out.ext he6).put hP (by omega) hkp, (HE4.out.trans he6).put2 (by rw [HH.out]; omega) _ _⟩)
    clear hkp hP x0 x1 g0 g1 bx hI6 hx6 he6 he5 hx5 hd0 l0 l1 lB HN4 HB4 HZ4 HI4 HE4
    generalize ((w6.setCell ⟨H + 1, 0, none⟩ (.int .i64 s3)).setCell ⟨H + 1, 1, none⟩ (.slice a3 n3 c3)) = V6 at *
    go_wp2_with fail
    go_meet
    exact ⟨s3, a3, n3, c3, Hend.out⟩
  case rest =>
  obtain ⟨s3, a3, n3, c3, hN, hB, hI, hZ, hE⟩ := hcut
  obtain ⟨w7, rfl⟩ : ∃ w7 : World, w7 = wc := ⟨_, rfl⟩
  clear HN3 HB3 HZ3 HI3 HE3
  obtain ⟨cq, hrq, hcq⟩ := hN.cells
  obtain ⟨l, rfl⟩ : ∃ l : List Value, cq = l.toArray := ⟨cq.toList, by simp⟩
  have hl : l.length = 16 := by simpa using hcq.1
  match l, hl with
  | [y0, y1, y2, y3, y4, y5, y6, y7, y8, y9, y10, y11, y12, y13, y14, y15], _ =>
  have hsn := hcq.snoc hI
  have hcat : (#[y0, y1, y2, y3, y4, y5, y6, y7, y8, y9, y10, y11, y12, y13, y14, y15] : Array Value) ++ #[.int .i64 s3, .slice a3 n3 c3] = #[y0, y1, y2, y3, y4, y5, y6, y7, y8, y9, y10, y11, y12, y13, y14, y15, .int .i64 s3, .slice a3 n3 c3] := by simp
  rw [hcat] at hsn
  obtain ⟨c1, hr1, hc1⟩ := hZ.cells
  have hs1 := hc1.1
  have hone := hsn.one
  obtain ⟨nn, ch, rr⟩ := hsn.setRow hZ
  have l0 := hB.c0; have l1 := hB.c1
  have hlo := low_of (f := f) (V := dvN f b) (d := d) (b := b) Hbd.out.1 (fun i hi => dvN_mul (Hdv.out i hi)) Hodd.out
  have Hend := Lib.hid (show NmA (w7.setRow (H + 2) (#[y0, y1, y2, y3, y4, y5, y6, y7, y8, y9, y10, y11, y12, y13, y14, y15, .int .i64 s3, .slice a3 n3 c3])) (#[y0, y1, y2, y3, y4, y5, y6, y7, y8, y9, y10, y11, y12, y13, y14, y15, .int .i64 s3, .slice a3 n3 c3]) ⟨ext8 (dvN f b), d - b⟩ P E ∧ EqN ⟨ext8 (dvN f b), d - b⟩ ⟨ext8 f, d⟩ ∧ Ext w (w7.setRow (H + 2) (#[y0, y1, y2, y3, y4, y5, y6, y7, y8, y9, y10, y11, y12, y13, y14, y15, .int .i64 s3, .slice a3 n3 c3])) from
    ⟨⟨anti_ext8 (dvN f b), hlo.1, fun k => by
        have h1 := ext8_abs (f := dvN f b) (A := 2 ^ P - 1) (fun i hi => by have h2 := HA.out i hi; have h3 := dvN_abs (f := f) (b := b) (i := i); omega) k
        have : 0 < 2 ^ P := Nat.pow_pos (by decide)
        show (ext8 (dvN f b) k).natAbs < 2 ^ P
        omega, by have := Hd.out; show d - b ≤ E; omega, (hsn.keep64 ch.keep).congr fun i hi => by
          unfold nmF
          by_cases e : i = 8
          · rw [if_pos e, if_pos e]; have := Hbd.out.1; show (d : Int) - b = ((d - b : Nat) : Int); omega
          · rw [if_neg e, if_neg e]
            show _ = ext8 (dvN f b) (i : Int)
            rw [ext8_at _ _ (by omega) (by omega)]; rfl⟩, hlo.2, ch.ext hE (by rw [HH.out]; omega)⟩)
  clear nn ch hc1 hsn hlo hcq hN hZ hI hE hB HA Hodd Hdv
  go_wp2_with (first
    | refine wpList_load_row rfl 26 _ rfl H rfl 26 _ (0, 0) _ hrq Tryz.underlying26 rfl rrow_info ?_
    | refine wpList_store_row rfl 28 _ _ rfl (H + 2) (#[y0, y1, y2, y3, y4, y5, y6, y7, y8, y9, y10, y11, y12, y13, y14, y15, .int .i64 s3, .slice a3 n3 c3]) rfl rfl 28 _ hr1 rnum_info hs1 hone ?_)
  refine bodyPost_ret (v := .agg (#[y0, y1, y2, y3, y4, y5, y6, y7, y8, y9, y10, y11, y12, y13, y14, y15, .int .i64 s3, .slice a3 n3 c3])) ?_ rfl ⟨_, _, rfl, Hend.out⟩
  exact results_cell_row rfl _ _ (H + 2) _ _ _ _ rfl rr Tryz.underlying28 rfl rnum_info
end Go.Proofs.YtldkomeacocjbaaGreatDoor
namespace Go.Proofs.YtldkomeacocjbaaGreatDoor
open Go.RowKit

theorem exec_load_row {P : Program} {ρ : Operand → Value} {o : Oper} {w : World} (ty : TypeId) (x : Operand) (ho : o.op = .load ty x) (g : Nat) (hx : ρ x = .pointer (some ⟨g, 0, none⟩)) (t : TypeId) (cs : Array Value) (fr : Nat × Nat) (d : TypeDesc) (hg : w.heap[g]? = some (.cells cs t fr))
    (hu : P.underlying ty = some d) (hd : (match d with | .struct _ | .array _ _ => true | _ => false) = true) (hi : (P.info? ty).map (·.size) = some cs.size) : (execOp ρ o).run P w = .ok (.value (.agg cs)) w := by
  unfold execOp
  simp only [ho, hx, Instr.loadAt, Instr.sureAddr, Sem.run_bind, Sem.run_pure, Result.andThen_ok, run_loadVar_row w g t ty cs fr d hg hu hd hi]
theorem stepK_storeR {ops : Array Oper} {o : Oper} {a : Act} {K : Act → World → Prop} {Q : Exit → Act → World → Prop} {E : Prop} {w : World} (hgd : o.guard = none) (hd : o.dst = none) (ty : TypeId) (p x : Operand)
    (ho : o.op = .store ty p x) (g : Nat) (cells : Array Value) (hp : a.eval p = .pointer (some ⟨g, 0, none⟩)) (hx : a.eval x = .agg cells) (t : TypeId) (old : Array Value) (hg : w.heap[g]? = some (.cells old t (0, 0)))
    (hi : (Tryz.prog.info? ty).map (·.size) = some cells.size) (hold : old.size = cells.size) (h1 : cells.all (·.oneCell') = true) (h : K a (w.setRow g cells)) :
    if Region.wanted o (yielded ops a.tmps) = true then Oper.wp Tryz.prog o a w K Q else E := by
  have hw : Region.wanted o (yielded ops a.tmps) = true := by simp [Region.wanted, hgd]
  rw [if_pos hw]
  refine wp_store_row ty p x ho g cells hp hx t old hg hi hold h1 ?_
  rw [hd]
  exact h

/-- The integer z. -/
def nOf (z : Int) : Nm := ⟨mono 0 z, 0⟩
theorem mono_abs (k n j : Int) : (mono k n j).natAbs ≤ n.natAbs := by unfold mono; repeat (split); all_goals omega
theorem nOf_one : nOf 1 = nOne := by
  unfold nOf nOne
  rw [mono_tr]
  congr 1
  funext k
  unfold trR
  rw [Int.sub_zero]

set_option maxRecDepth 100000 in
set_option maxHeartbeats 2000000 in
theorem ROf_nm (s : Int) (a : Option Addr) (n c : Nat) (z : Int) (P E : Nat) (w : World) (hI : IsInt w s a n c z) (hz : z.natAbs < 2 ^ P) :
    Calls Tryz.prog 43 #[.agg #[.int .i64 s, .slice a n c]] w fun e w' => ∃ cr : Array Value, e = .returned (.agg cr) ∧ NmA w' cr (nOf z) P E ∧ Ext w w' := by
  obtain ⟨H, hH⟩ : ∃ H, w.heap.size = H := ⟨_, rfl⟩
  obtain ⟨U, hU⟩ : ∃ U, (w.alloc (.cells #[.int .i64 s, .slice a n c] 24)).alloc (.cells zero9 28) = U := ⟨_, rfl⟩
  have E0 : Ext w U := by rw [← hU]; exact (Ext.alloc _ _).trans (Ext.alloc _ _)
  have B0 : Box U H s a n c := by rw [← hU, ← hH]; exact (box_new w s a n c).ext (Ext.alloc _ _)
  have Z0 : Nums U (H + 1) 9 28 (fun _ => 0) := by
    have := (cells_zero9 (w.alloc (.cells #[.int .i64 s, .slice a n c] 24))).box 28
    rw [← hU, ← hH]
    simpa using this
  have hcl : CellsA U #[.int .i64 s, .slice a n c, .int .i64 0, .slice none 0 0, .int .i64 0, .slice none 0 0, .int .i64 0, .slice none 0 0, .int .i64 0, .slice none 0 0, .int .i64 0, .slice none 0 0, .int .i64 0, .slice none 0 0, .int .i64 0, .slice none 0 0, .int .i64 0, .slice none 0 0] 9 (fun i => if i = 0 then z else 0) := by
    refine ⟨rfl, fun i hi => ?_⟩
    by_cases e : i = 0
    · subst e; exact ⟨s, a, n, c, rfl, rfl, hI.ext E0⟩
    · refine ⟨0, none, 0, 0, ?_, ?_, by show IsInt U 0 none 0 0 (if i = 0 then z else 0); rw [if_neg e]; exact isInt_zero U⟩
      all_goals
        have e : i = 1 ∨ i = 2 ∨ i = 3 ∨ i = 4 ∨ i = 5 ∨ i = 6 ∨ i = 7 ∨ i = 8 := by omega
        rcases e with rfl | rfl | rfl | rfl | rfl | rfl | rfl | rfl <;> rfl
  have l0 := B0.c0; have l1 := B0.c1
  obtain ⟨c1, hr1, hc1⟩ := Z0.cells
  have hs1 := hc1.1
  have hone := hcl.one
  obtain ⟨nn, ch, rr⟩ := hcl.setRow Z0
  have Hend := Lib.hid (show NmA (U.setRow (H + 1) #[.int .i64 s, .slice a n c, .int .i64 0, .slice none 0 0, .int .i64 0, .slice none 0 0, .int .i64 0, .slice none 0 0, .int .i64 0, .slice none 0 0, .int .i64 0, .slice none 0 0, .int .i64 0, .slice none 0 0, .int .i64 0, .slice none 0 0, .int .i64 0, .slice none 0 0]) #[.int .i64 s, .slice a n c, .int .i64 0, .slice none 0 0, .int .i64 0, .slice none 0 0, .int .i64 0, .slice none 0 0, .int .i64 0, .slice none 0 0, .int .i64 0, .slice none 0 0, .int .i64 0, .slice none 0 0, .int .i64 0, .slice none 0 0, .int .i64 0, .slice none 0 0] (nOf z) P E ∧ Ext w (U.setRow (H + 1) #[.int .i64 s, .slice a n c, .int .i64 0, .slice none 0 0, .int .i64 0, .slice none 0 0, .int .i64 0, .slice none 0 0, .int .i64 0, .slice none 0 0, .int .i64 0, .slice none 0 0, .int .i64 0, .slice none 0 0, .int .i64 0, .slice none 0 0, .int .i64 0, .slice none 0 0]) from
    ⟨⟨anti_mono 0 z, Or.inl rfl, fun k => Nat.lt_of_le_of_lt (mono_abs 0 z k) hz, Nat.zero_le _, (hcl.keep64 ch.keep).congr fun i hi => by
      show (if i = 0 then z else 0) = if i = 8 then ((0 : Nat) : Int) else mono 0 z i
      unfold mono
      repeat (split)
      all_goals omega⟩, ch.ext E0 (by rw [hH]; omega)⟩)
  have HU := Lib.hid hU; have HH := Lib.hid hH
  clear hU hH nn ch hc1 hcl Z0 B0 E0 hI
  go_enter Tryz.func43, Tryz.ntmps43
  go_upto_region 1 with fail
  rw [HU.out, HH.out]
  clear HU HH
  go_wp2_with (refine wpList_store_row rfl 28 _ _ rfl (H + 1) #[.int .i64 s, .slice a n c, .int .i64 0, .slice none 0 0, .int .i64 0, .slice none 0 0, .int .i64 0, .slice none 0 0, .int .i64 0, .slice none 0 0, .int .i64 0, .slice none 0 0, .int .i64 0, .slice none 0 0, .int .i64 0, .slice none 0 0, .int .i64 0, .slice none 0 0] rfl rfl 28 _ hr1 rnum_info hs1 hone ?_)
  refine bodyPost_ret (v := .agg #[.int .i64 s, .slice a n c, .int .i64 0, .slice none 0 0, .int .i64 0, .slice none 0 0, .int .i64 0, .slice none 0 0, .int .i64 0, .slice none 0 0, .int .i64 0, .slice none 0 0, .int .i64 0, .slice none 0 0, .int .i64 0, .slice none 0 0, .int .i64 0, .slice none 0 0]) ?_ rfl ⟨_, rfl, Hend.out⟩
  exact results_cell_row rfl _ _ (H + 1) _ _ _ _ rfl rr Tryz.underlying28 rfl rnum_info
end Go.Proofs.YtldkomeacocjbaaGreatDoor
