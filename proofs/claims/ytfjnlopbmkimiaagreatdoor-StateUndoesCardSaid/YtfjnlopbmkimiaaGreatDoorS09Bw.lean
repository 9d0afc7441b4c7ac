/-
  A sum over a power of two brought into the one way in which it is kept: lowest. Whole values loaded and stored in regions that draw their order; Of. A number of circuits turned: Turn. What every function that answers a number of circuits ends with; Neg. A number of circuits over the root of two: Half. A number of circuits made of ints: Make. A row's length: how many parts there are up to the last that is not nought. Texts are put together: what strings.Builder's writing methods do in this program, where a written builder is never copied.
-/
import Derived.Test.YtfjnlopbmkimiaaGreatDoorProg
import Derived.Test.YtfjnlopbmkimiaaGreatDoorRows
import Derived.BigQuiet
import Derived.Deep.Cut
import Derived.Deep.CutRange
import Derived.Deep.LoopGhost
import Derived.Deep.MidRow
import Derived.Deep.QuietTactic
import Derived.Deep.RegionHeld3
import Derived.Ground.Names2Prog
import Derived.Laws.Bits64b
import Derived.Laws.CopyOwn
import Derived.Laws.ResultCell
import Derived.Laws.Rows
import Derived.Lib.BitFns
import Derived.Lib.Hide
import Derived.Lib.ItoaNum
import Derived.Lib.Strings
import Derived.Lib.TrailingZeros
import Derived.Shelf.Bits.Mul64
import Derived.Shelf.LaysM
import Derived.Shelf.Slices.SearchI
import Derived.Shelf.Small.Bits
import Derived.Shelf.Small.Wraps
import Derived.Shelf.Spec.BitsCarry
import Derived.Shelf.Spec.TrailingZeros
import Derived.Shelf.Strconv.Itoa0
import Derived.Shelf.Strconv.Itoa1
import Derived.Shelf.Strconv.Itoa2
import Derived.Shelf.Strconv.Itoa3
import Derived.Shelf.Strings.Builder1
import Derived.Shelf.Strings.BuilderF
import Derived.Shelf.Strings.BuilderK
import Derived.WalkKit
import Derived.WalkLawsBesides
import Derived.WalkSpells
import Derived.Test.YtfjnlopbmkimiaaGreatDoorS00Mem
import Derived.Test.YtfjnlopbmkimiaaGreatDoorShelf
import Derived.Test.YtfjnlopbmkimiaaGreatDoorS02ShiftI
import Derived.Test.YtfjnlopbmkimiaaGreatDoorS03GuessD
import Derived.Test.YtfjnlopbmkimiaaGreatDoorS04IntB
import Derived.Test.YtfjnlopbmkimiaaGreatDoorS05IntD
import Derived.Test.YtfjnlopbmkimiaaGreatDoorS06GcB
import Derived.Test.YtfjnlopbmkimiaaGreatDoorS07Rg
import Derived.Test.YtfjnlopbmkimiaaGreatDoorS08ZC
namespace Go.Proofs.YtfjnlopbmkimiaaGreatDoor
open Go.RowKit

theorem fit_pow {K P : Nat} {z : Int} (h : z.natAbs < 2 ^ P) (hP : P ≤ 64 * K) : Fit K z := by
  unfold Fit
  have h1 : 2 ^ P ≤ 2 ^ (64 * K) := Nat.pow_le_pow_right (by decide) hP
  have h2 : B64 ^ K = 2 ^ (64 * K) := by rw [Nat.pow_mul]; rfl
  omega
theorem fit_small {K : Nat} {z : Int} (h : z.natAbs ≤ 9223372036854775808) (hK : 1 ≤ K) : Fit K z := fit_pow (P := 64) (by omega) (by omega)
theorem CmpK_is {w : World} {s1 s2 : Int} {a1 a2 : Option Addr} {n1 c1 n2 c2 : Nat} {z1 z2 : Int} (k : Int) (h1 : IsInt w s1 a1 n1 c1 z1) (h2 : IsInt w s2 a2 n2 c2 z2) (K : Nat) (hK : K ≤ 4194304) (hf1 : Fit K z1) (hf2 : Fit K z2) (hk : cmp3 z1 z2 = k) :
    Calls Tryz.prog 85 #[.agg #[.int .i64 s1, .slice a1 n1 c1], .agg #[.int .i64 s2, .slice a2 n2 c2]] w fun e w' => e = .returned (.int .i64 k) ∧ Ext w w' := by
  rw [← hk]
  exact Cmp_any s1 s2 a1 a2 n1 c1 n2 c2 z1 z2 w h1 h2 K hK hf1 hf2
theorem min_cases (t d : Nat) : ∃ b : Nat, b = min t d ∧ ((d < t ∧ b = d) ∨ (t ≤ d ∧ b = t)) := ⟨min t d, rfl, by omega⟩
/-- Divided so often. -/
def dvN (f : Nat → Int) (b : Nat) : Nat → Int := fun i => f i / (2 ^ b : Nat)
theorem dvN_mul {f : Nat → Int} {b i : Nat} (h : 2 ^ b ∣ (f i).natAbs) : f i = dvN f b i * 2 ^ b := by
  unfold dvN
  have h1 : ((2 ^ b : Nat) : Int) ∣ f i := Int.ofNat_dvd_left.2 h
  have := Int.ediv_mul_cancel h1
  rw [Int.natCast_pow] at this
  rw [Int.natCast_pow]
  exact this.symm
theorem dvN_abs {f : Nat → Int} {b i : Nat} : (dvN f b i).natAbs ≤ (f i).natAbs := by
  unfold dvN
  exact Int.natAbs_ediv_le_natAbs _ _
theorem dvN_shv {f : Nat → Int} {b i : Nat} (hb : 0 < b) (h : 2 ^ b ∣ (f i).natAbs) : ShV (-(b : Int)) (f i) (dvN f b i) := by
  refine Or.inr ⟨by omega, ?_⟩
  rw [show (-(-(b : Int))).toNat = b by omega, Int.natCast_pow]
  exact dvN_mul h
theorem dvN_odd {f : Nat → Int} {b i : Nat} (h : Tw (f i).natAbs b) : dvN f b i % 2 = 1 := by
  obtain ⟨m, hm⟩ := h
  have h1 := dvN_mul (f := f) (b := b) (i := i) (by rw [hm]; exact Nat.dvd_mul_right _ _)
  have h2 : (f i).natAbs = (dvN f b i).natAbs * 2 ^ b := by
    have := congrArg Int.natAbs h1
    rw [Int.natAbs_mul, Int.natAbs_pow] at this
    exact this
  rw [hm, Nat.mul_comm] at h2
  have h3 := Nat.eq_of_mul_eq_mul_right (Nat.pow_pos (by decide)) h2
  omega

set_option maxRecDepth 100000 in
set_option maxHeartbeats 4000000 in
theorem rlowest_any (cp : Array Value) (s : Int) (a : Option Addr) (n c : Nat) (f : Nat → Int) (d : Nat) (w : World) (hc : CellsA w cp 8 f) (hI : IsInt w s a n c (d : Int)) (K P E : Nat) (hK : K ≤ 4194304) (hK1 : 1 ≤ K) (hP : P ≤ 64 * K) (hE : E ≤ 1099511627776) (hA : ∀ i, i < 8 → (f i).natAbs < 2 ^ P) (hd : d ≤ E) (hbr : Bru w) :
    Calls Tryz.prog 90 #[.agg cp, .agg #[.int .i64 s, .slice a n c]] w fun e w' => ∃ (cr : Array Value) (x : Nm), e = .returned (.agg cr) ∧ NmA w' cr x P E ∧ EqN x ⟨ext8 f, d⟩ ∧ Ext w w' := by
  have HI := Lib.hid hI; have HK := Lib.hid hK; have HK1 := Lib.hid hK1; have HA := Lib.hid hA; have Hd := Lib.hid hd; have HE := Lib.hid hE; have Hbr := Lib.hid hbr
  have HF : Hid (∀ i, i < 8 → Fit K (f i)) := Lib.hid fun i hi => fit_pow (hA i hi) hP
  have HFd : Hid (Fit K (d : Int)) := Lib.hid (fit_small (z := (d : Int)) (by omega) hK1)
  have hcs := hc.1
  obtain ⟨H, hH⟩ : ∃ H, w.heap.size = H := ⟨_, rfl⟩
  obtain ⟨U, hU⟩ : ∃ U, ((w.alloc (.cells cp 76)).alloc (.cells #[.int .i64 s, .slice a n c] 74)).alloc (.cells zero9 78) = U := ⟨_, rfl⟩
  have E0 : Ext w U := by rw [← hU]; exact ((Ext.alloc _ _).trans (Ext.alloc _ _)).trans (Ext.alloc _ _)
  have N0 : Nums U H 8 76 f := by rw [← hU, ← hH]; exact (hc.box 76).ext ((Ext.alloc _ _).trans (Ext.alloc _ _))
  have B0 : Box U (H + 1) s a n c := by
    have := box_new (w.alloc (.cells cp 76)) s a n c
    rw [← hU, ← hH]
    have h2 := this.ext (Ext.alloc _ (.cells zero9 78))
    simpa using h2
  have Z0 : Nums U (H + 2) 9 78 (fun _ => 0) := by
    have := (cells_zero9 ((w.alloc (.cells cp 76)).alloc (.cells #[.int .i64 s, .slice a n c] 74))).box 78
    rw [← hU, ← hH]
    simpa using this
  have HU := Lib.hid hU; have HE0 := Lib.hid E0; have HN0 := Lib.hid N0; have HB0 := Lib.hid B0; have HZ0 := Lib.hid Z0; have HH := Lib.hid hH
  have HgB : Hid (∀ w' : World, Ext w w' → Bru w') := Lib.hid fun w' h => bru_ext hbr h
  have HgH : Hid (Tryz.lays29_ren.g 1 ≠ H) := Lib.hid (by
    intro e
    have h1 := hbr 0 (by decide)
    have h2 : Tryz.lays29_ren.g 1 < w.heap.size := World.block_lt_of_cell? w _ h1
    rw [e, hH] at h2
    exact Nat.lt_irrefl _ h2)
  clear hU E0 N0 B0 Z0 hH hI hK hK1 hA hd hE hbr hP hc
  go_enter Tryz.func90, Tryz.ntmps90
  go_wp2_with fail
  rw [HU.out, HH.out]
  clear HU hcs
  by_cases hz : zeroN f
  · have HZ := Lib.hid (rowZero_yes H 8 _ f U HN0.out (by decide) true (by simp [hz]))
    refine HZ.out.mono ?_
    rintro e w1 ⟨rfl, hx1⟩
    have z1 := HZ0.out.ext hx1
    obtain ⟨c1, hr1, hc1⟩ := z1.cells
    have hs1 := hc1.1
    obtain ⟨nn, ch, rr⟩ := (cells_zero9 w1).setRow z1
    have Hend := Lib.hid (show NmA (w1.setRow (H + 2) zero9) zero9 ⟨ext8 (fun _ => 0), 0⟩ P E ∧ EqN ⟨ext8 (fun _ => 0), 0⟩ ⟨ext8 f, d⟩ ∧ Ext w (w1.setRow (H + 2) zero9) from
      ⟨⟨anti_ext8 (fun _ => 0), (low_nil hz d).1, fun k => by rw [ext8_zero]; exact Nat.pow_pos (by decide), Nat.zero_le _, (cells_zero9 _).congr fun i hi => by
          unfold nmF; split
          · rfl
          · rw [ext8_zero]⟩, (low_nil hz d).2, ch.ext (HE0.out.trans hx1) (by rw [HH.out]; omega)⟩)
    clear nn ch hc1 z1 hx1 HZ hz
    go_wp2_with (refine wpList_store_row rfl 78 _ _ rfl (H + 2) zero9 rfl rfl 78 _ hr1 rnum_info hs1 (cells_zero9 w1).one ?_)
    refine bodyPost_ret (v := .agg zero9) ?_ rfl ⟨zero9, _, rfl, Hend.out⟩
    exact results_cell_row rfl _ _ (H + 2) _ _ _ _ rfl rr Tryz.underlying78 rfl rnum_info
  have HZ := Lib.hid (rowZero_yes H 8 _ f U HN0.out (by decide) false (by simp [hz]))
  refine HZ.out.mono ?_
  rintro e w1 ⟨rfl, hx1⟩
  have HE1 := Lib.hid (HE0.out.trans hx1); have HN1 := Lib.hid (HN0.out.ext hx1); have HB1 := Lib.hid (HB0.out.ext hx1); have HZ1 := Lib.hid (HZ0.out.ext hx1)
  clear hx1 HE0 HN0 HB0 HZ0 HZ
  have HT := Lib.hid (rowTwos_any H 8 _ f w1 HN1.out (by decide) K HK.out HF.out (HgB.out _ HE1.out))
  go_wp2_with fail
  refine HT.out.mono ?_
  rintro e w2 ⟨⟨T, rfl, hT⟩, hx2⟩
  obtain ⟨t, rfl, htB, htd, hto⟩ : ∃ t : Nat, T = (t : Int) ∧ t < 64 * K + 64 ∧ (∀ i, i < 8 → 2 ^ t ∣ (f i).natAbs) ∧ ∃ i, i < 8 ∧ Tw (f i).natAbs t := by
    rcases hT with ⟨_, h⟩ | h
    · exact absurd h hz
    · exact h
  have HE2 := Lib.hid (HE1.out.trans hx2); have HN2 := Lib.hid (HN1.out.ext hx2); have HB2 := Lib.hid (HB1.out.ext hx2); have HZ2 := Lib.hid (HZ1.out.ext hx2)
  have Hto := Lib.hid hto; have Htd := Lib.hid htd; have HtB := Lib.hid (show t < 268435520 by have := HK.out; omega)
  clear hx2 HE1 HN1 HB1 HZ1 HT hT hz hto htd htB
  obtain ⟨b, hb0, hbc⟩ := min_cases t d
  have Hb := Lib.hid hb0; have Hbc := Lib.hid hbc
  clear hb0 hbc
  obtain ⟨k, hk⟩ : ∃ k, cmp3 (d : Int) (t : Int) = k := ⟨_, rfl⟩
  have Hk := Lib.hid hk
  clear hk
  have l0 := HB2.out.c0; have l1 := HB2.out.c1; have lB := HB2.out.lt
  have HI2 := Lib.hid (HI.out.ext HE2.out)
  go_upto_region 4 with fail
  have h0d : Ext w2 w2.drew := Below.drew (Ext.refl _)
  go_region_held3 (fun w' => w'.cell? ⟨H + 1, 0, none⟩ = some (.int .i64 s) ∧ w'.cell? ⟨H + 1, 1, none⟩ = some (.slice a n c))
    (exact ⟨cellKeep (W := w2) (by assumption) lB l0, cellKeep (W := w2) (by assumption) lB l1⟩)
    (first
      | (have _ := qv0; go_at_call 85; refine (CmpK_is k (HI2.out.ext hv0) Kv0 K HK.out HFd.out (fit_small (z := (t : Int)) (by have := HtB.out; omega) HK1.out) Hk.out).mono ?_; rintro e v1 ⟨rfl, qv1⟩; have hv1 : Ext w2 v1 := hv0.trans qv1)
      | (go_at_call 130; refine (Of_any (t : Int) (by have := HtB.out; omega) (by have := HtB.out; omega) _).mono ?_; rintro e v0 ⟨rfl, Kv0, qv0⟩; have hv0 : Ext w2 v0 := Ext.trans (by assumption) qv0))
  clear Kv0
  go_upto_if 13 with fail
  go_cut [5] from 13 to 18 (fun s5 wx => s5 = .int .i64 (b : Int) ∧ Ext w2 wx)
  case first =>
    by_cases hlt : d < t
    · have b1 : k < 0 := by rw [← Hk.out, cmp3_lt (by omega)]; decide
      have hbd : d = b := by have := Hbc.out; omega
      have Hbd := Lib.hid hbd
      have p0 := cellKeep hv1 lB l0; have p1 := cellKeep hv1 lB l1
      have HSm := Lib.hid (Small_any s a n c (d : Int) v1 (HI2.out.ext hv1))
      rw [if_pos (by have := Hd.out; have := HE.out; omega)] at HSm
      clear hbd hlt
      go_wp2_with fail
      refine HSm.out.mono ?_
      rintro e v2 ⟨rfl, qv2⟩
      go_wp2_with fail
      go_meet
      exact ⟨by rw [Hbd.out], hv1.trans qv2⟩
    · have b1 : ¬ k < 0 := by rw [← Hk.out]; unfold cmp3; rw [if_neg (by omega)]; split <;> decide
      have hbt : t = b := by have := Hbc.out; omega
      have Hbt := Lib.hid hbt
      clear hbt hlt
      go_wp2_with fail
      go_meet
      exact ⟨by rw [Hbt.out], hv1⟩
  case rest =>
  obtain ⟨rfl, hx3⟩ := hcut
  obtain ⟨w3, rfl⟩ : ∃ w3 : World, w3 = wc := ⟨_, rfl⟩
  have HE3 := Lib.hid (HE2.out.trans hx3); have HN3 := Lib.hid (HN2.out.ext hx3); have HB3 := Lib.hid (HB2.out.ext hx3); have HZ3 := Lib.hid (HZ2.out.ext hx3); have HI3 := Lib.hid (HI2.out.ext hx3)
  clear hx3 HE2 HN2 HB2 HZ2 HI2 l0 l1 lB Hk
  have Hbd : Hid (b ≤ d ∧ b ≤ t) := Lib.hid (by have := Hb.out; omega)
  have Hdv : Hid (∀ i, i < 8 → 2 ^ b ∣ (f i).natAbs) := Lib.hid fun i hi => Nat.dvd_trans (Nat.pow_dvd_pow 2 Hbd.out.2) (Htd.out i hi)
  have Hodd : Hid (b = d ∨ ∃ i, i < 8 ∧ dvN f b i % 2 = 1) := Lib.hid (by
    rcases Hbc.out with ⟨_, h⟩ | ⟨_, h⟩
    · exact Or.inl h
    · obtain ⟨i, hi, ht⟩ := Hto.out
      exact Or.inr ⟨i, hi, dvN_odd (by rw [h]; exact ht)⟩)
  have HbB : Hid (b ≤ 1099511627776) := Lib.hid (by have := Hbd.out; have := Hd.out; have := HE.out; omega)
  clear Htd Hto Hbc Hb HtB
  go_upto_if 20 with fail
  go_cut [] from 20 to 27 (fun wx => ∃ (s' : Int) (a' : Option Addr) (n' c' : Nat), Nums wx H 8 76 (dvN f b) ∧ Box wx (H + 1) s' a' n' c' ∧ IsInt wx s' a' n' c' ((d : Int) - b) ∧ Nums wx (H + 2) 9 78 (fun _ => 0) ∧ Ext w wx)
  case first =>
    by_cases hb0 : b = 0
    · subst hb0
      go_wp2_with fail
      go_meet
      exact ⟨s, a, n, c, HN3.out.congr fun i hi => by unfold dvN; simp, HB3.out, HI3.out.cast (by omega), HZ3.out, HE3.out⟩
    have b1 : (0 : Int) < (b : Int) := by omega
    have HbP := Lib.hid (show 0 < b by omega)
    have wn : IntKind.i64.wrap (-(b : Int)) = -(b : Int) := by have := HbB.out; rw [IntKind.wrap_i64]; omega
    have HSh := Lib.hid (rowShift_any H 8 _ f (dvN f b) (-(b : Int)) w3 HN3.out (by decide) K HK.out HK1.out HF.out (fun i hi => by
      have h1 := HF.out i hi; have h2 := dvN_abs (f := f) (b := b) (i := i)
      unfold Fit at h1 ⊢; omega) (by have := HbB.out; omega) (by have := HbB.out; omega) (fun i hi => dvN_shv HbP.out (Hdv.out i hi)) (HgB.out _ HE3.out) HgH.out)
    clear hb0
    go_wp2_with fail
    refine HSh.out.mono ?_
    rintro e w4 ⟨rfl, hN4, hC4⟩
    have HN4 := Lib.hid (hN4.congr (f' := dvN f b) fun i hi => by unfold shN; rw [if_pos hi])
    have hlB := HB3.out.lt
    have HB4 : Hid (Box w4 (H + 1) s a n c) := Lib.hid ⟨(hC4.block (H + 1) (by omega) HB3.out.lt).trans HB3.out.row⟩
    have HZ4 := Lib.hid (HZ3.out.chg hC4 (by omega)); have HI4 := Lib.hid (HI3.out.keep64 hC4.keep); have HE4 := Lib.hid (hC4.ext HE3.out (by rw [HH.out]; exact Nat.le_refl _))
    clear hN4 hC4 HN3 HB3 HZ3 HI3 HE3 HSh wn b1 hlB
    have l0 := HB4.out.c0; have l1 := HB4.out.c1; have lB := HB4.out.lt
    have HOf := Lib.hid (fun wx => Of_any (b : Int) (by have := HbB.out; omega) (by have := HbB.out; omega) wx)
    have HSu := Lib.hid (fun (wx : World) (hx : Ext w4 wx) (ib : IsInt wx (b : Int) none 0 0 (b : Int)) => Sub_any s (b : Int) a none n c 0 0 (d : Int) (b : Int) wx (HI4.out.ext hx) ib K HK.out HFd.out (fit_small (z := (b : Int)) (by have := HbB.out; omega) HK1.out))
    go_upto_region 8 with fail
    have hd0 : Ext w4 w4.drew := Below.drew (Ext.refl _)
    refine wp_region_K 4 (fun w' => w'.cell? ⟨H + 1, 0, none⟩ = some (.int .i64 s) ∧ w'.cell? ⟨H + 1, 1, none⟩ = some (.slice a n c)) (by kernel_rfl) ?_
    show anyK _ _ _ _ _ _ 5 #[false, false, false, false, false] _ _
    have hHeld : w4.drew.cell? ⟨H + 1, 0, none⟩ = some (.int .i64 s) ∧ w4.drew.cell? ⟨H + 1, 1, none⟩ = some (.slice a n c) := ⟨cellKeep hd0 lB l0, cellKeep hd0 lB l1⟩
    refine anyK_take (i := 0) (v := ?_) rfl (by kernel_rfl) (by kernel_rfl) (by kernel_rfl) (N := 5) (by kernel_rfl) (by kernel_rfl) (by kernel_rfl) (fun _ _ _ h => h) (Or.inl ⟨by rfl, ?_⟩) hHeld ?_
    rotate_left 1
    · intro w hSw
      go_simp
      try with_reducible rfl
    show anyK _ _ _ _ _ _ _ _ (Act.put _ (some 24) _) _
    simp only [Act.put, List.setIfInBounds_toArray, List.set_cons_zero, List.set_cons_succ]
    refine anyK_take (i := 1) (v := ?_) rfl (by kernel_rfl) (by kernel_rfl) (by kernel_rfl) (N := 5) (by kernel_rfl) (by kernel_rfl) (by kernel_rfl) (fun _ _ _ h => h) (Or.inl ⟨by rfl, ?_⟩) hHeld ?_
    rotate_left 1
    · intro w hSw
      go_simp
      try with_reducible rfl
    show anyK _ _ _ _ _ _ _ _ (Act.put _ (some 25) _) _
    simp only [Act.put, List.setIfInBounds_toArray, List.set_cons_zero, List.set_cons_succ]
    clear hHeld
    refine anyK_one (i := 2) (by kernel_rfl) rfl (fun Kk hKk => ?_)
    go_simp
    (go_at_call 130; refine (HOf.out w4.drew).mono ?_; rintro e w5 ⟨rfl, ib5, hx5⟩)
    have he5 := hd0.trans hx5
    go_wp2_with fail
    refine hKk.out _ _ (fun _ => ⟨cellKeep he5 lB l0, cellKeep he5 lB l1⟩) ?_
    clear hKk Kk
    simp only [List.setIfInBounds_toArray, List.set_cons_zero, List.set_cons_succ]
    refine anyK_one (i := 3) (by kernel_rfl) rfl (fun Kk hKk => ?_)
    go_simp
    (go_at_call 86; refine (HSu.out w5 he5 ib5).mono ?_; rintro e w6 ⟨s3, a3, n3, c3, rfl, hI6, hx6⟩)
    have he6 := he5.trans hx6
    go_wp2_with fail
    refine hKk.out _ _ (fun _ => ⟨cellKeep he6 lB l0, cellKeep he6 lB l1⟩) ?_
    clear hKk Kk
    simp only [List.setIfInBounds_toArray, List.set_cons_zero, List.set_cons_succ]
    have bx := HB4.out.ext he6
    have x0 := bx.c0; have x1 := bx.c1; have g0 := bx.f0; have g1 := bx.f1
    refine anyK_one (i := 4) (by kernel_rfl) rfl (fun Kk hKk => ?_)
    refine stepK_storeW rfl rfl _ _ rfl (H + 1) 0 s3 a3 n3 c3 _ _ rfl rfl x0 x1 g0 g1 ?_
    refine hKk.out _ _ (fun h => Bool.noConfusion (show true = false from h)) ?_
    clear hKk Kk
    simp only [List.setIfInBounds_toArray, List.set_cons_zero, List.set_cons_succ]
    refine anyK_done (by kernel_rfl) ?_ _
    have hkp : Keep64 w6 ((w6.setCell ⟨H + 1, 0, none⟩ (.int .i64 s3)).setCell ⟨H + 1, 1, none⟩ (.slice a3 n3 c3)) := Keep64.set2 (.i64 x0) (.slice x1) (notW_i64 s3) (.slice a3 n3 c3)
    have hP : Only (H + 1) w6 ((w6.setCell ⟨H + 1, 0, none⟩ (.int .i64 s3)).setCell ⟨H + 1, 1, none⟩ (.slice a3 n3 c3)) := ((Only.refl _ _).setCell _ _).setCell _ _
    have Hend := Lib.hid (show Nums ((w6.setCell ⟨H + 1, 0, none⟩ (.int .i64 s3)).setCell ⟨H + 1, 1, none⟩ (.slice a3 n3 c3)) H 8 76 (dvN f b) ∧ Box ((w6.setCell ⟨H + 1, 0, none⟩ (.int .i64 s3)).setCell ⟨H + 1, 1, none⟩ (.slice a3 n3 c3)) (H + 1) s3 a3 n3 c3 ∧ IsInt ((w6.setCell ⟨H + 1, 0, none⟩ (.int .i64 s3)).setCell ⟨H + 1, 1, none⟩ (.slice a3 n3 c3)) s3 a3 n3 c3 ((d : Int) - b) ∧ Nums ((w6.setCell ⟨H + 1, 0, none⟩ (.int .i64 s3)).setCell ⟨H + 1, 1, none⟩ (.slice a3 n3 c3)) (H + 2) 9 78 (fun _ => 0) ∧ Ext w ((w6.setCell ⟨H + 1, 0, none⟩ (.int .i64 s3)).setCell ⟨H + 1, 1, none⟩ (.slice a3 n3 c3)) from
      ⟨(HN4.out.ext he6).put hP (by omega) hkp, bx.own s3 a3 n3 c3, hI6.keep64 hkp, (HZ4.out.ext he6).put hP (by omega) hkp, (HE4.out.trans he6).put2 (by rw [HH.out]; omega) _ _⟩)
    clear hkp hP x0 x1 g0 g1 bx hI6 hx6 he6 he5 hx5 hd0 l0 l1 lB HN4 HB4 HZ4 HI4 HE4
    generalize ((w6.setCell ⟨H + 1, 0, none⟩ (.int .i64 s3)).setCell ⟨H + 1, 1, none⟩ (.slice a3 n3 c3)) = V6 at *
    go_wp2_with fail
    go_meet
    exact ⟨s3, a3, n3, c3, Hend.out⟩
  case rest =>
  obtain ⟨s3, a3, n3, c3, hN, hB, hI, hZ, hE⟩ := hcut
  obtain ⟨w7, rfl⟩ : ∃ w7 : World, w7 = wc := ⟨_, rfl⟩
  clear HN3 HB3 HZ3 HI3 HE3
  obtain ⟨cq, hrq, hcq⟩ := hN.cells
  obtain ⟨l, rfl⟩ : ∃ l : List Value, cq = l.toArray := ⟨cq.toList, by simp⟩
  have hl : l.length = 16 := by simpa using hcq.1
  match l, hl with
  | [y0, y1, y2, y3, y4, y5, y6, y7, y8, y9, y10, y11, y12, y13, y14, y15], _ =>
  have hsn := hcq.snoc hI
  have hcat : (#[y0, y1, y2, y3, y4, y5, y6, y7, y8, y9, y10, y11, y12, y13, y14, y15] : Array Value) ++ #[.int .i64 s3, .slice a3 n3 c3] = #[y0, y1, y2, y3, y4, y5, y6, y7, y8, y9, y10, y11, y12, y13, y14, y15, .int .i64 s3, .slice a3 n3 c3] := by simp
  rw [hcat] at hsn
  obtain ⟨c1, hr1, hc1⟩ := hZ.cells
  have hs1 := hc1.1
  have hone := hsn.one
  obtain ⟨nn, ch, rr⟩ := hsn.setRow hZ
  have l0 := hB.c0; have l1 := hB.c1
  have hlo := low_of (f := f) (V := dvN f b) (d := d) (b := b) Hbd.out.1 (fun i hi => dvN_mul (Hdv.out i hi)) Hodd.out
  have Hend := Lib.hid (show NmA (w7.setRow (H + 2) (#[y0, y1, y2, y3, y4, y5, y6, y7, y8, y9, y10, y11, y12, y13, y14, y15, .int .i64 s3, .slice a3 n3 c3])) (#[y0, y1, y2, y3, y4, y5, y6, y7, y8, y9, y10, y11, y12, y13, y14, y15, .int .i64 s3, .slice a3 n3 c3]) ⟨ext8 (dvN f b), d - b⟩ P E ∧ EqN ⟨ext8 (dvN f b), d - b⟩ ⟨ext8 f, d⟩ ∧ Ext w (w7.setRow (H + 2) (#[y0, y1, y2, y3, y4, y5, y6, y7, y8, y9, y10, y11, y12, y13, y14, y15, .int .i64 s3, .slice a3 n3 c3])) from
    ⟨⟨anti_ext8 (dvN f b), hlo.1, fun k => by
        have h1 := ext8_abs (f := dvN f b) (A := 2 ^ P - 1) (fun i hi => by have h2 := HA.out i hi; have h3 := dvN_abs (f := f) (b := b) (i := i); omega) k
        have : 0 < 2 ^ P := Nat.pow_pos (by decide)
        show (ext8 (dvN f b) k).natAbs < 2 ^ P
        omega, by have := Hd.out; show d - b ≤ E; omega, (hsn.keep64 ch.keep).congr fun i hi => by
          unfold nmF
          by_cases e : i = 8
          · rw [if_pos e, if_pos e]; have := Hbd.out.1; show (d : Int) - b = ((d - b : Nat) : Int); omega
          · rw [if_neg e, if_neg e]
            show _ = ext8 (dvN f b) (i : Int)
            rw [ext8_at _ _ (by omega) (by omega)]; rfl⟩, hlo.2, ch.ext hE (by rw [HH.out]; omega)⟩)
  clear nn ch hc1 hsn hlo hcq hN hZ hI hE hB HA Hodd Hdv
  go_wp2_with (first
    | refine wpList_load_row rfl 76 _ rfl H rfl 76 _ (0, 0) _ hrq Tryz.underlying76 rfl rrow_info ?_
    | refine wpList_store_row rfl 78 _ _ rfl (H + 2) (#[y0, y1, y2, y3, y4, y5, y6, y7, y8, y9, y10, y11, y12, y13, y14, y15, .int .i64 s3, .slice a3 n3 c3]) rfl rfl 78 _ hr1 rnum_info hs1 hone ?_)
  refine bodyPost_ret (v := .agg (#[y0, y1, y2, y3, y4, y5, y6, y7, y8, y9, y10, y11, y12, y13, y14, y15, .int .i64 s3, .slice a3 n3 c3])) ?_ rfl ⟨_, _, rfl, Hend.out⟩
  exact results_cell_row rfl _ _ (H + 2) _ _ _ _ rfl rr Tryz.underlying78 rfl rnum_info
end Go.Proofs.YtfjnlopbmkimiaaGreatDoor
namespace Go.Proofs.YtfjnlopbmkimiaaGreatDoor
open Go.RowKit

theorem exec_load_row {P : Program} {ρ : Operand → Value} {o : Oper} {w : World} (ty : TypeId) (x : Operand) (ho : o.op = .load ty x) (g : Nat) (hx : ρ x = .pointer (some ⟨g, 0, none⟩)) (t : TypeId) (cs : Array Value) (fr : Nat × Nat) (d : TypeDesc) (hg : w.heap[g]? = some (.cells cs t fr))
    (hu : P.underlying ty = some d) (hd : (match d with | .struct _ | .array _ _ => true | _ => false) = true) (hi : (P.info? ty).map (·.size) = some cs.size) : (execOp ρ o).run P w = .ok (.value (.agg cs)) w := by
  unfold execOp
  simp only [ho, hx, Instr.loadAt, Instr.sureAddr, Sem.run_bind, Sem.run_pure, Result.andThen_ok, run_loadVar_row w g t ty cs fr d hg hu hd hi]
theorem stepK_storeR {ops : Array Oper} {o : Oper} {a : Act} {K : Act → World → Prop} {Q : Exit → Act → World → Prop} {E : Prop} {w : World} (hgd : o.guard = none) (hd : o.dst = none) (ty : TypeId) (p x : Operand)
    (ho : o.op = .store ty p x) (g : Nat) (cells : Array Value) (hp : a.eval p = .pointer (some ⟨g, 0, none⟩)) (hx : a.eval x = .agg cells) (t : TypeId) (old : Array Value) (hg : w.heap[g]? = some (.cells old t (0, 0)))
    (hi : (Tryz.prog.info? ty).map (·.size) = some cells.size) (hold : old.size = cells.size) (h1 : cells.all (·.oneCell') = true) (h : K a (w.setRow g cells)) :
    if Region.wanted o (yielded ops a.tmps) = true then Oper.wp Tryz.prog o a w K Q else E := by
  have hw : Region.wanted o (yielded ops a.tmps) = true := by simp [Region.wanted, hgd]
  rw [if_pos hw]
  refine wp_store_row ty p x ho g cells hp hx t old hg hi hold h1 ?_
  rw [hd]
  exact h

/-- The integer z. -/
def nOf (z : Int) : Nm := ⟨mono 0 z, 0⟩
theorem mono_abs (k n j : Int) : (mono k n j).natAbs ≤ n.natAbs := by unfold mono; repeat (split); all_goals omega
theorem nOf_one : nOf 1 = nOne := by
  unfold nOf nOne
  rw [mono_tr]
  congr 1
  funext k
  unfold trR
  rw [Int.sub_zero]

set_option maxRecDepth 100000 in
set_option maxHeartbeats 2000000 in
theorem ROf_nm (s : Int) (a : Option Addr) (n c : Nat) (z : Int) (P E : Nat) (w : World) (hI : IsInt w s a n c z) (hz : z.natAbs < 2 ^ P) :
    Calls Tryz.prog 139 #[.agg #[.int .i64 s, .slice a n c]] w fun e w' => ∃ cr : Array Value, e = .returned (.agg cr) ∧ NmA w' cr (nOf z) P E ∧ Ext w w' := by
  obtain ⟨H, hH⟩ : ∃ H, w.heap.size = H := ⟨_, rfl⟩
  obtain ⟨U, hU⟩ : ∃ U, (w.alloc (.cells #[.int .i64 s, .slice a n c] 74)).alloc (.cells zero9 78) = U := ⟨_, rfl⟩
  have E0 : Ext w U := by rw [← hU]; exact (Ext.alloc _ _).trans (Ext.alloc _ _)
  have B0 : Box U H s a n c := by rw [← hU, ← hH]; exact (box_new w s a n c).ext (Ext.alloc _ _)
  have Z0 : Nums U (H + 1) 9 78 (fun _ => 0) := by
    have := (cells_zero9 (w.alloc (.cells #[.int .i64 s, .slice a n c] 74))).box 78
    rw [← hU, ← hH]
    simpa using this
  have hcl : CellsA U #[.int .i64 s, .slice a n c, .int .i64 0, .slice none 0 0, .int .i64 0, .slice none 0 0, .int .i64 0, .slice none 0 0, .int .i64 0, .slice none 0 0, .int .i64 0, .slice none 0 0, .int .i64 0, .slice none 0 0, .int .i64 0, .slice none 0 0, .int .i64 0, .slice none 0 0] 9 (fun i => if i = 0 then z else 0) := by
    refine ⟨rfl, fun i hi => ?_⟩
    by_cases e : i = 0
    · subst e; exact ⟨s, a, n, c, rfl, rfl, hI.ext E0⟩
    · refine ⟨0, none, 0, 0, ?_, ?_, by show IsInt U 0 none 0 0 (if i = 0 then z else 0); rw [if_neg e]; exact isInt_zero U⟩
      all_goals
        have e : i = 1 ∨ i = 2 ∨ i = 3 ∨ i = 4 ∨ i = 5 ∨ i = 6 ∨ i = 7 ∨ i = 8 := by omega
        rcases e with rfl | rfl | rfl | rfl | rfl | rfl | rfl | rfl <;> rfl
  have l0 := B0.c0; have l1 := B0.c1
  obtain ⟨c1, hr1, hc1⟩ := Z0.cells
  have hs1 := hc1.1
  have hone := hcl.one
  obtain ⟨nn, ch, rr⟩ := hcl.setRow Z0
  have Hend := Lib.hid (show NmA (U.setRow (H + 1) #[.int .i64 s, .slice a n c, .int .i64 0, .slice none 0 0, .int .i64 0, .slice none 0 0, .int .i64 0, .slice none 0 0, .int .i64 0, .slice none 0 0, .int .i64 0, .slice none 0 0, .int .i64 0, .slice none 0 0, .int .i64 0, .slice none 0 0, .int .i64 0, .slice none 0 0]) #[.int .i64 s, .slice a n c, .int .i64 0, .slice none 0 0, .int .i64 0, .slice none 0 0, .int .i64 0, .slice none 0 0, .int .i64 0, .slice none 0 0, .int .i64 0, .slice none 0 0, .int .i64 0, .slice none 0 0, .int .i64 0, .slice none 0 0, .int .i64 0, .slice none 0 0] (nOf z) P E ∧ Ext w (U.setRow (H + 1) #[.int .i64 s, .slice a n c, .int .i64 0, .slice none 0 0, .int .i64 0, .slice none 0 0, .int .i64 0, .slice none 0 0, .int .i64 0, .slice none 0 0, .int .i64 0, .slice none 0 0, .int .i64 0, .slice none 0 0, .int .i64 0, .slice none 0 0, .int .i64 0, .slice none 0 0]) from
    ⟨⟨anti_mono 0 z, Or.inl rfl, fun k => Nat.lt_of_le_of_lt (mono_abs 0 z k) hz, Nat.zero_le _, (hcl.keep64 ch.keep).congr fun i hi => by
      show (if i = 0 then z else 0) = if i = 8 then ((0 : Nat) : Int) else mono 0 z i
      unfold mono
      repeat (split)
      all_goals omega⟩, ch.ext E0 (by rw [hH]; omega)⟩)
  have HU := Lib.hid hU; have HH := Lib.hid hH
  clear hU hH nn ch hc1 hcl Z0 B0 E0 hI
  go_enter Tryz.func139, Tryz.ntmps139
  go_upto_region 1 with fail
  rw [HU.out, HH.out]
  clear HU HH
  go_wp2_with (refine wpList_store_row rfl 78 _ _ rfl (H + 1) #[.int .i64 s, .slice a n c, .int .i64 0, .slice none 0 0, .int .i64 0, .slice none 0 0, .int .i64 0, .slice none 0 0, .int .i64 0, .slice none 0 0, .int .i64 0, .slice none 0 0, .int .i64 0, .slice none 0 0, .int .i64 0, .slice none 0 0, .int .i64 0, .slice none 0 0] rfl rfl 78 _ hr1 rnum_info hs1 hone ?_)
  refine bodyPost_ret (v := .agg #[.int .i64 s, .slice a n c, .int .i64 0, .slice none 0 0, .int .i64 0, .slice none 0 0, .int .i64 0, .slice none 0 0, .int .i64 0, .slice none 0 0, .int .i64 0, .slice none 0 0, .int .i64 0, .slice none 0 0, .int .i64 0, .slice none 0 0, .int .i64 0, .slice none 0 0]) ?_ rfl ⟨_, rfl, Hend.out⟩
  exact results_cell_row rfl _ _ (H + 1) _ _ _ _ rfl rr Tryz.underlying78 rfl rnum_info
end Go.Proofs.YtfjnlopbmkimiaaGreatDoor
namespace Go.Proofs.YtfjnlopbmkimiaaGreatDoor
open Go.RowKit

set_option maxRecDepth 100000 in
set_option maxHeartbeats 4000000 in
theorem Turn_nm (ca : Array Value) (x : Nm) (P E : Nat) (k : Int) (w : World) (h : NmA w ca x P E) (K : Nat) (hK : K ≤ 4194304) (hP : P + 3 ≤ 64 * K) :
    Calls Tryz.prog 140 #[.agg ca, .int .i64 k] w fun e w' => ∃ cr : Array Value, e = .returned (.agg cr) ∧ NmA w' cr (nTr k x) P E ∧ Ext w w' := by
  obtain ⟨f, hf⟩ : ∃ f, nmF x = f := ⟨_, rfl⟩
  have hv := h.val
  rw [hf] at hv
  have hF : ∀ i, i < 8 → (f i).natAbs ≤ 2 ^ P - 1 := fun i hi => by
    have := nmF_abs h.abs i hi
    rw [hf] at this
    omega
  have hFit : ∀ j, j ≤ 8 → ∀ i, i < 8 → Fit K (trnN f k j i) := fun j hj i hi => by
    have h1 := trnN_abs f k (2 ^ P - 1) hF j hj i hi
    have h2 : j * (2 ^ P - 1) ≤ 8 * (2 ^ P - 1) := Nat.mul_le_mul_right _ hj
    have h3 : 0 < 2 ^ P := Nat.pow_pos (by decide)
    refine fit_pow (P := P + 3) ?_ hP
    rw [Nat.pow_add]
    omega
  have hFf : ∀ i, i < 8 → Fit K (f i) := fun i hi => fit_pow (P := P) (by have := hF i hi; have h3 : 0 < 2 ^ P := Nat.pow_pos (by decide); omega) (by omega)
  have hres : NmA w ca x P E := h
  have HF := Lib.hid hFit; have HFf := Lib.hid hFf; have HK := Lib.hid hK; have Hx := Lib.hid hres; have Hf := Lib.hid hf
  obtain ⟨H, hH⟩ : ∃ H, w.heap.size = H := ⟨_, rfl⟩
  obtain ⟨s8, a8, n8, c8, q0, q1, i8⟩ := hv.2 8 (by decide)
  have r0 : ((w.alloc (.cells ca 78)).alloc (.cells zero9 78)).heap[w.heap.size]? = some (.cells ca 78 (0, 0)) := ((Ext.alloc _ _).block _ (Array.getElem?_eq_some_iff.1 (heap_alloc_new w (.cells ca 78))).1).trans (heap_alloc_new w _)
  have m16 : ((w.alloc (.cells ca 78)).alloc (.cells zero9 78)).cell? ⟨w.heap.size, 16, none⟩ = some (.int .i64 s8) := by rw [cell_of_row _ _ _ _ _ _ r0]; exact q0
  have m17 : ((w.alloc (.cells ca 78)).alloc (.cells zero9 78)).cell? ⟨w.heap.size, 17, none⟩ = some (.slice a8 n8 c8) := by rw [cell_of_row _ _ _ _ _ _ r0]; exact q1
  have r2 : (((w.alloc (.cells ca 78)).alloc (.cells zero9 78)).alloc (.cells zero9 78)).heap[w.heap.size + 1 + 1]? = some (.cells zero9 78 (0, 0)) := by
    have := heap_alloc_new ((w.alloc (.cells ca 78)).alloc (.cells zero9 78)) (.cells zero9 78)
    simpa using this
  have e0 : Ext w (((w.alloc (.cells ca 78)).alloc (.cells zero9 78)).alloc (.cells zero9 78)) := ((Ext.alloc _ _).trans (Ext.alloc _ _)).trans (Ext.alloc _ _)
  have hcl : CellsA (((w.alloc (.cells ca 78)).alloc (.cells zero9 78)).alloc (.cells zero9 78)) #[.int .i64 0, .slice none 0 0, .int .i64 0, .slice none 0 0, .int .i64 0, .slice none 0 0, .int .i64 0, .slice none 0 0, .int .i64 0, .slice none 0 0, .int .i64 0, .slice none 0 0, .int .i64 0, .slice none 0 0, .int .i64 0, .slice none 0 0, .int .i64 s8, .slice a8 n8 c8] 9 (trnN f k 0) := by
    refine ⟨rfl, fun i hi => ?_⟩
    by_cases e : i = 8
    · subst e; exact ⟨s8, a8, n8, c8, rfl, rfl, (i8.ext e0).cast (trnN_down f k 0).symm⟩
    · refine ⟨0, none, 0, 0, ?_, ?_, (isInt_zero _).cast (by show 0 = if i = 8 then f 8 else 0; rw [if_neg e])⟩
      all_goals
        have e : i = 0 ∨ i = 1 ∨ i = 2 ∨ i = 3 ∨ i = 4 ∨ i = 5 ∨ i = 6 ∨ i = 7 := by omega
        rcases e with rfl | rfl | rfl | rfl | rfl | rfl | rfl | rfl <;> rfl
  have z2 : Nums (((w.alloc (.cells ca 78)).alloc (.cells zero9 78)).alloc (.cells zero9 78)) (w.heap.size + 1 + 1) 9 78 (fun _ => 0) := (cells_zero9 _).nums r2
  have z1 : Nums (((w.alloc (.cells ca 78)).alloc (.cells zero9 78)).alloc (.cells zero9 78)) (w.heap.size + 1) 9 78 (fun _ => 0) := by
    have := ((cells_zero9 (w.alloc (.cells ca 78))).box 78).ext (Ext.alloc _ (.cells zero9 78))
    simpa using this
  have z0 : Nums (((w.alloc (.cells ca 78)).alloc (.cells zero9 78)).alloc (.cells zero9 78)) w.heap.size 9 78 f := (hv.box 78).ext ((Ext.alloc _ _).trans (Ext.alloc _ _))
  obtain ⟨n2, ch, _⟩ := hcl.setRow z2
  have Hst := Lib.hid (show Nums ((((w.alloc (.cells ca 78)).alloc (.cells zero9 78)).alloc (.cells zero9 78)).setRow (w.heap.size + 1 + 1) #[.int .i64 0, .slice none 0 0, .int .i64 0, .slice none 0 0, .int .i64 0, .slice none 0 0, .int .i64 0, .slice none 0 0, .int .i64 0, .slice none 0 0, .int .i64 0, .slice none 0 0, .int .i64 0, .slice none 0 0, .int .i64 0, .slice none 0 0, .int .i64 s8, .slice a8 n8 c8]) (H + 2) 9 78 (trnN f k 0) ∧ Nums ((((w.alloc (.cells ca 78)).alloc (.cells zero9 78)).alloc (.cells zero9 78)).setRow (w.heap.size + 1 + 1) #[.int .i64 0, .slice none 0 0, .int .i64 0, .slice none 0 0, .int .i64 0, .slice none 0 0, .int .i64 0, .slice none 0 0, .int .i64 0, .slice none 0 0, .int .i64 0, .slice none 0 0, .int .i64 0, .slice none 0 0, .int .i64 0, .slice none 0 0, .int .i64 s8, .slice a8 n8 c8]) (H + 1) 9 78 (fun _ => 0) ∧ Nums ((((w.alloc (.cells ca 78)).alloc (.cells zero9 78)).alloc (.cells zero9 78)).setRow (w.heap.size + 1 + 1) #[.int .i64 0, .slice none 0 0, .int .i64 0, .slice none 0 0, .int .i64 0, .slice none 0 0, .int .i64 0, .slice none 0 0, .int .i64 0, .slice none 0 0, .int .i64 0, .slice none 0 0, .int .i64 0, .slice none 0 0, .int .i64 0, .slice none 0 0, .int .i64 s8, .slice a8 n8 c8]) H 9 78 f ∧ Ext w ((((w.alloc (.cells ca 78)).alloc (.cells zero9 78)).alloc (.cells zero9 78)).setRow (w.heap.size + 1 + 1) #[.int .i64 0, .slice none 0 0, .int .i64 0, .slice none 0 0, .int .i64 0, .slice none 0 0, .int .i64 0, .slice none 0 0, .int .i64 0, .slice none 0 0, .int .i64 0, .slice none 0 0, .int .i64 0, .slice none 0 0, .int .i64 0, .slice none 0 0, .int .i64 s8, .slice a8 n8 c8]) from
    ⟨hH ▸ n2, hH ▸ z1.chg ch (by omega), hH ▸ z0.chg ch (by omega), ch.ext e0 (by omega)⟩)
  have hone := hcl.one
  have HH := Lib.hid hH
  clear hv hF hFit hFf hres h hK hP hH hf n2 ch z0 z1 z2 hcl e0 r0 q0 q1 i8
  go_enter Tryz.func140, Tryz.ntmps140
  go_wp2_with (refine wpList_store_row rfl 78 _ _ rfl (w.heap.size + 1 + 1) #[.int .i64 0, .slice none 0 0, .int .i64 0, .slice none 0 0, .int .i64 0, .slice none 0 0, .int .i64 0, .slice none 0 0, .int .i64 0, .slice none 0 0, .int .i64 0, .slice none 0 0, .int .i64 0, .slice none 0 0, .int .i64 0, .slice none 0 0, .int .i64 s8, .slice a8 n8 c8] rfl rfl 78 _ r2 rnum_info rfl hone ?_)
  clear hone r2 m16 m17
  generalize (((w.alloc (.cells ca 78)).alloc (.cells zero9 78)).alloc (.cells zero9 78)).setRow (w.heap.size + 1 + 1) #[.int .i64 0, .slice none 0 0, .int .i64 0, .slice none 0 0, .int .i64 0, .slice none 0 0, .int .i64 0, .slice none 0 0, .int .i64 0, .slice none 0 0, .int .i64 0, .slice none 0 0, .int .i64 0, .slice none 0 0, .int .i64 0, .slice none 0 0, .int .i64 s8, .slice a8 n8 c8] = V at *
  rw [HH.out]
  go_loopg [6, 10] 8 (fun kk s6 s10 wr => ∃ j : Nat, s10 = .int .i64 (j : Int) ∧ j ≤ 8 ∧ 8 - j = kk ∧ Nums wr (H + 2) 9 78 (trnN f k j) ∧ Nums wr (H + 1) 9 78 (fun _ => 0) ∧ Nums wr H 9 78 f ∧ Ext w wr)
  case atStart => exact ⟨0, rfl, by omega, by omega, Hst.out⟩
  case round =>
    clear Hst
    obtain ⟨j, rfl, hj, hjk, hN, hZ, hA, hE⟩ := hrel
    obtain ⟨wo, rfl⟩ : ∃ wo : World, wo = wr := ⟨_, rfl⟩
    by_cases hj8 : j = 8
    · subst hj8
      obtain ⟨cr, hr, hc⟩ := hN.cells
      obtain ⟨c1, hr1, hc1⟩ := hZ.cells
      have hs : cr.size = 18 := hc.1
      have hs1 : c1.size = cr.size := by rw [hs]; exact hc1.1
      have hone := hc.one
      have hinf : (Tryz.prog.info? 78).map (·.size) = some cr.size := by rw [hs]; exact rnum_info
      obtain ⟨nn, ch, rr⟩ := hc.setRow hZ
      have Hend := Lib.hid (show NmA (wo.setRow (H + 1) cr) cr (nTr k x) P E ∧ Ext w (wo.setRow (H + 1) cr) from by
        have hx := Hx.out
        have he : ext8 (trnN f k 8) = (nTr k x).a := by
          rw [ext8_trnN, ← Hf.out, ext8_nmF hx.anti]; rfl
        refine ⟨⟨hx.anti.tr k, hx.low.tr k, fun i => hx.abs (i - k), hx.down, (hc.keep64 ch.keep).congr fun i hi => ?_⟩, ch.ext hE (by rw [HH.out]; omega)⟩
        unfold nmF
        by_cases e : i = 8
        · rw [if_pos e, e, trnN_down f k, ← Hf.out]; rfl
        · rw [if_neg e, ← he, ext8_at _ _ (by omega) (by omega)]; rfl)
      clear nn ch hc hc1 hN hZ hA hE Hx Hf HF HFf hs
      go_wp2_with (first
        | refine wpList_load_row rfl 78 _ rfl (H + 2) rfl 78 _ (0, 0) _ hr Tryz.underlying78 rfl hinf ?_
        | refine wpList_store_row rfl 78 _ _ rfl (H + 1) cr rfl rfl 78 _ hr1 hinf hs1 hone ?_)
      refine bodyPost_ret (v := .agg cr) ?_ rfl ⟨_, rfl, Hend.out⟩
      exact results_cell_row rfl _ _ (H + 1) _ _ _ _ rfl rr Tryz.underlying78 rfl hinf
    have hlt : j < 8 := by omega
    have q1 : (j : Int) < 8 := by omega
    have q0 : (0 : Int) ≤ (j : Int) := by omega
    obtain ⟨s1, a1, n1, c1, y0, y1, _, _, hI1⟩ := hA.get j (by omega)
    have wk : IntKind.i64.wrap ((j : Int) + 1) = ((j + 1 : Nat) : Int) := by rw [IntKind.wrap_i64]; omega
    obtain ⟨kj, hkj⟩ : ∃ kj, IntKind.i64.wrap ((j : Int) + k) = kj := ⟨_, rfl⟩
    have HAd := Lib.hid (rowAdd_any (H + 2) 9 78 (trnN f k j) (kj) s1 a1 n1 c1 (f j) wo hN (by decide) hI1 K HK.out (HFf.out j hlt) (HF.out j hj))
    have Had := Lib.hid (show addN (trnN f k j) kj (f j) = trnN f k (j + 1) from by rw [← hkj, addN_wrap]; rfl)
    have Hj1 := Lib.hid (show j + 1 ≤ 8 by omega)
    have HZ := Lib.hid hZ; have HA := Lib.hid hA; have HE := Lib.hid hE; have Hjk := Lib.hid hjk
    clear hI1 hN hZ hA hE hjk hj8 hj hlt
    go_wp2_with fail
    refine HAd.out.mono ?_
    rintro e w2 ⟨rfl, hN2, hC2⟩
    have Hend := Lib.hid (show Nums w2 (H + 2) 9 78 (trnN f k (j + 1)) ∧ Nums w2 (H + 1) 9 78 (fun _ => 0) ∧ Nums w2 H 9 78 f ∧ Ext w w2 from
      ⟨Had.out ▸ hN2, HZ.out.chg hC2 (by omega), HA.out.chg hC2 (by omega), hC2.ext HE.out (by rw [HH.out]; omega)⟩)
    clear hN2 hC2 HAd HZ HA HE y0 y1
    go_wp2_with fail
    go_roundg (8 - (j + 1))
    case measure => have := Hjk.out; have := Hj1.out; omega
    case rel => exact ⟨j + 1, rfl, Hj1.out, rfl, Hend.out⟩
end Go.Proofs.YtfjnlopbmkimiaaGreatDoor
namespace Go.Proofs.YtfjnlopbmkimiaaGreatDoor
open Go.RowKit

/-- A number is written into the result's variable and answered. -/
theorem fin_num {w w1 : World} {cr : Array Value} {y : Nm} {P E g : Nat} {fz : Nat → Int} (hcr : NmA w1 cr y P E) (hz : Nums w1 g 9 78 fz) (hE : Ext w w1) (hg : w.heap.size ≤ g) :
    ∃ c1, w1.heap[g]? = some (.cells c1 78 (0, 0)) ∧ c1.size = cr.size ∧ cr.all (·.oneCell') = true ∧ (Tryz.prog.info? 78).map (·.size) = some cr.size ∧ (w1.setRow g cr).heap[g]? = some (.cells cr 78 (0, 0)) ∧ NmA (w1.setRow g cr) cr y P E ∧ Ext w (w1.setRow g cr) := by
  obtain ⟨c1, hr1, hc1⟩ := hz.cells
  have hs : cr.size = 18 := hcr.val.1
  obtain ⟨nn, ch, rr⟩ := hcr.val.setRow hz
  exact ⟨c1, hr1, by rw [hs]; exact hc1.1, hcr.val.one, by rw [hs]; exact rnum_info, rr, hcr.keep64 ch.keep, ch.ext hE hg⟩
theorem NmA.size {w : World} {cs : Array Value} {x : Nm} {P E : Nat} (h : NmA w cs x P E) : cs.size = 18 := h.val.1
theorem NmA.info {w : World} {cs : Array Value} {x : Nm} {P E : Nat} (h : NmA w cs x P E) : (Tryz.prog.info? 78).map (·.size) = some cs.size := by rw [h.size]; exact rnum_info
theorem NmA.le {w : World} {cs : Array Value} {x : Nm} {P E P' E' : Nat} (h : NmA w cs x P E) (hP : P ≤ P') (hE : E ≤ E') : NmA w cs x P' E' :=
  ⟨h.anti, h.low, fun k => Nat.lt_of_lt_of_le (h.abs k) (Nat.pow_le_pow_right (by decide) hP), Nat.le_trans h.down hE, h.val⟩

set_option maxRecDepth 100000 in
set_option maxHeartbeats 4000000 in
theorem RNeg_nm (ca : Array Value) (x : Nm) (P E : Nat) (w : World) (h : NmA w ca x P E) (K : Nat) (hK : K ≤ 4194304) (hP : P + 3 ≤ 64 * K) :
    Calls Tryz.prog 161 #[.agg ca] w fun e w' => ∃ cr : Array Value, e = .returned (.agg cr) ∧ NmA w' cr (nNeg x) P E ∧ Ext w w' := by
  obtain ⟨H, hH⟩ : ∃ H, w.heap.size = H := ⟨_, rfl⟩
  obtain ⟨U, hU⟩ : ∃ U, (w.alloc (.cells ca 78)).alloc (.cells zero9 78) = U := ⟨_, rfl⟩
  have E0 : Ext w U := by rw [← hU]; exact (Ext.alloc _ _).trans (Ext.alloc _ _)
  have hrA : ((w.alloc (.cells ca 78)).alloc (.cells zero9 78)).heap[w.heap.size]? = some (.cells ca 78 (0, 0)) := ((Ext.alloc _ _).block _ (Array.getElem?_eq_some_iff.1 (heap_alloc_new w (.cells ca 78))).1).trans (heap_alloc_new w _)
  have Z0 : Nums U (H + 1) 9 78 (fun _ => 0) := by
    have := (cells_zero9 (w.alloc (.cells ca 78))).box 78
    rw [← hU, ← hH]
    simpa using this
  have hinf0 := h.info
  have HT := Lib.hid (Turn_nm ca x P E 8 U (h.ext E0) K hK hP)
  have hn := nNeg_tr h.anti
  rw [hn] at HT
  have HU := Lib.hid hU; have HH := Lib.hid hH; have HE0 := Lib.hid E0; have HZ0 := Lib.hid Z0
  clear hU hH Z0 E0 h hn hK hP
  go_enter Tryz.func161, Tryz.ntmps161
  go_wp2_with (refine wpList_load_row rfl 78 _ rfl w.heap.size rfl 78 _ (0, 0) _ hrA Tryz.underlying78 rfl hinf0 ?_)
  rw [HU.out, HH.out]
  refine HT.out.mono ?_
  rintro e w1 ⟨cr, rfl, hcr, hx1⟩
  obtain ⟨c1, hr1, hs1, hone, hinf, rr, hnm, hE'⟩ := fin_num hcr (HZ0.out.ext hx1) (HE0.out.trans hx1) (by rw [HH.out]; omega)
  have Hend := Lib.hid (And.intro hnm hE')
  clear hnm hE' hcr hx1 HT HU HH HE0 HZ0 hrA
  go_wp2_with (refine wpList_store_row rfl 78 _ _ rfl (H + 1) cr rfl rfl 78 _ hr1 hinf hs1 hone ?_)
  refine bodyPost_ret (v := .agg cr) ?_ rfl ⟨_, rfl, Hend.out⟩
  exact results_cell_row rfl _ _ (H + 1) _ _ _ _ rfl rr Tryz.underlying78 rfl hinf
end Go.Proofs.YtfjnlopbmkimiaaGreatDoor
namespace Go.Proofs.YtfjnlopbmkimiaaGreatDoor
open Go.RowKit

set_option maxRecDepth 100000 in
set_option maxHeartbeats 4000000 in
theorem Half_nm (ca : Array Value) (x : Nm) (P E : Nat) (w : World) (h : NmA w ca x P E) (K : Nat) (hK : K ≤ 4194304) (hP : P + 4 ≤ 64 * K) (hE : E + 1 ≤ 1099511627776) (hbr : Bru w) :
    Calls Tryz.prog 142 #[.agg ca] w fun e w' => ∃ (cr : Array Value) (y : Nm), e = .returned (.agg cr) ∧ NmA w' cr y (P + 4) (E + 1) ∧ EqN y (nHf x) ∧ Ext w w' := by
  have hK1 : 1 ≤ K := by omega
  obtain ⟨f, hf⟩ : ∃ f, nmF x = f := ⟨_, rfl⟩
  have hv := h.val
  rw [hf] at hv
  have h3 : 0 < 2 ^ P := Nat.pow_pos (by decide)
  have hF : ∀ i, i < 8 → (f i).natAbs ≤ 2 ^ P - 1 := fun i hi => by
    have := nmF_abs h.abs i hi
    rw [hf] at this
    omega
  have hB : ∀ j, j ≤ 8 → ∀ i, i < 8 → (hfN f j i).natAbs < 2 ^ (P + 4) := fun j hj i hi => by
    have h1 := hfN_abs f (2 ^ P - 1) hF j hj i hi
    have h2 : j * ((2 ^ P - 1) + (2 ^ P - 1)) ≤ 8 * ((2 ^ P - 1) + (2 ^ P - 1)) := Nat.mul_le_mul_right _ hj
    rw [Nat.pow_add]
    omega
  have hB2 : ∀ j, j < 8 → ∀ i, i < 8 → (addN (hfN f j) (j + 2) (f j) i).natAbs < 2 ^ (P + 4) := fun j hj i hi => by
    have h1 := addN_abs (hfN f j) (j + 2) (f j) (j * ((2 ^ P - 1) + (2 ^ P - 1))) (2 ^ P - 1) (hfN_abs f (2 ^ P - 1) hF j (by omega)) (hF j hj) i hi
    have h2 : j * ((2 ^ P - 1) + (2 ^ P - 1)) ≤ 7 * ((2 ^ P - 1) + (2 ^ P - 1)) := Nat.mul_le_mul_right _ (by omega)
    rw [Nat.pow_add]
    omega
  have HB := Lib.hid hB; have HK := Lib.hid hK; have HK1 := Lib.hid hK1; have Hx := Lib.hid h; have Hf := Lib.hid hf; have HP := Lib.hid hP; have HEE := Lib.hid hE
  have HF := Lib.hid (show ∀ j, j ≤ 8 → ∀ i, i < 8 → Fit K (hfN f j i) from fun j hj i hi => fit_pow (hB j hj i hi) hP)
  have HF2 := Lib.hid (show ∀ j, j < 8 → ∀ i, i < 8 → Fit K (addN (hfN f j) (j + 2) (f j) i) from fun j hj i hi => fit_pow (hB2 j hj i hi) hP)
  have HFf := Lib.hid (show ∀ i, i < 8 → Fit K (f i) from fun i hi => fit_pow (P := P) (by have := hF i hi; omega) (by omega))
  obtain ⟨H, hH⟩ : ∃ H, w.heap.size = H := ⟨_, rfl⟩
  obtain ⟨U, hU⟩ : ∃ U, (((w.alloc (.cells ca 78)).alloc (.cells zero9 78)).alloc (.cells zero8 76)) = U := ⟨_, rfl⟩
  have E0 : Ext w U := by rw [← hU]; exact ((Ext.alloc _ _).trans (Ext.alloc _ _)).trans (Ext.alloc _ _)
  have N0 : Nums U H 9 78 f := by rw [← hU, ← hH]; exact (hv.box 78).ext ((Ext.alloc _ _).trans (Ext.alloc _ _))
  have Z0 : Nums U (H + 1) 9 78 (fun _ => 0) := by
    have := ((cells_zero9 (w.alloc (.cells ca 78))).box 78).ext (Ext.alloc _ (.cells zero8 76))
    rw [← hU, ← hH]
    simpa using this
  have R0 : Nums U (H + 2) 8 76 (hfN f 0) := by
    have := (cells_zero8 ((w.alloc (.cells ca 78)).alloc (.cells zero9 78))).box 76
    rw [← hU, ← hH, show hfN f 0 = fun _ => 0 from rfl]
    simpa using this
  have HU := Lib.hid hU; have HH := Lib.hid hH
  have Hst := Lib.hid (show Nums U (H + 2) 8 76 (hfN f 0) ∧ Nums U (H + 1) 9 78 (fun _ => 0) ∧ Nums U H 9 78 f ∧ Ext w U from ⟨R0, Z0, N0, E0⟩)
  have Hbr := Lib.hid hbr
  clear hU hH R0 Z0 N0 E0 hbr hF hB hB2 hv h hf hK hK1 hP hE h3
  go_enter Tryz.func142, Tryz.ntmps142
  go_wp2_with fail
  rw [HU.out, HH.out]
  clear HU
  go_loopg [4, 5] 8 (fun kk s4 s5 wr => ∃ j : Nat, s5 = .int .i64 (j : Int) ∧ j ≤ 8 ∧ 8 - j = kk ∧ Nums wr (H + 2) 8 76 (hfN f j) ∧ Nums wr (H + 1) 9 78 (fun _ => 0) ∧ Nums wr H 9 78 f ∧ Ext w wr)
  case atStart => exact ⟨0, rfl, by omega, by omega, Hst.out⟩
  case round =>
    clear Hst
    obtain ⟨j, rfl, hj, hjk, hN, hZ, hA, hE⟩ := hrel
    obtain ⟨wo, rfl⟩ : ∃ wo : World, wo = wr := ⟨_, rfl⟩
    by_cases hj8 : j = 8
    · subst hj8
      obtain ⟨cq, hrq, hcq⟩ := hN.cells
      have hinfq : (Tryz.prog.info? 76).map (·.size) = some cq.size := by rw [hcq.1]; exact rrow_info
      obtain ⟨s8, a8, n8, c8, l16, l17, _, _, hI8⟩ := hA.get 8 (by decide)
      have hf8 : f 8 = ((x.e : Nat) : Int) := by rw [← Hf.out]; rfl
      rw [hf8] at hI8
      have lq := hN.lt; have lH := hA.lt
      have HOf := Lib.hid (fun wx => Of_any 1 (by decide) (by decide) wx)
      have HAd := Lib.hid (fun (wx : World) (hx : Ext wo wx) (i1 : IsInt wx 1 none 0 0 1) => Add_any s8 1 a8 none n8 c8 0 0 ((x.e : Nat) : Int) 1 wx (hI8.ext hx) i1 K HK.out (fit_small (z := ((x.e : Nat) : Int)) (by have := Hx.out.down; have := HEE.out; omega) HK1.out) (fit_small (z := 1) (by decide) HK1.out))
      have HLo := Lib.hid (fun (wx : World) (hx : Ext wo wx) (s9 : Int) (a9 : Option Addr) (n9 c9 : Nat) (i9 : IsInt wx s9 a9 n9 c9 (((x.e : Nat) : Int) + 1)) => rlowest_any cq s9 a9 n9 c9 (hfN f 8) (x.e + 1) wx (hcq.ext hx) (i9.cast (by omega)) K (P + 4) (E + 1) HK.out HK1.out HP.out HEE.out (HB.out 8 (by decide)) (by have := Hx.out.down; omega) (bru_ext Hbr.out (hE.trans hx)))
      have HZ := Lib.hid hZ; have HE := Lib.hid hE
      clear hI8 hf8 hcq hN hA hZ hE HB HF HF2 HFf
      go_upto_region 8 with fail
      have hd0 : Ext wo wo.drew := Below.drew (Ext.refl _)
      refine wp_region_K 6 (fun w' => w'.heap[H + 2]? = some (.cells cq 76 (0, 0)) ∧ w'.cell? ⟨H, 16, none⟩ = some (.int .i64 s8) ∧ w'.cell? ⟨H, 17, none⟩ = some (.slice a8 n8 c8)) (by kernel_rfl) ?_
      show anyK _ _ _ _ _ _ 7 #[false, false, false, false, false, false, false] _ _
      have hHeld : wo.drew.heap[H + 2]? = some (.cells cq 76 (0, 0)) ∧ wo.drew.cell? ⟨H, 16, none⟩ = some (.int .i64 s8) ∧ wo.drew.cell? ⟨H, 17, none⟩ = some (.slice a8 n8 c8) := ⟨(hd0.block _ lq).trans hrq, cellKeep hd0 lH l16, cellKeep hd0 lH l17⟩
      refine anyK_take (i := 0) (v := .agg cq) rfl (by kernel_rfl) (by kernel_rfl) (by kernel_rfl) (N := 7) (by kernel_rfl) (by kernel_rfl) (by kernel_rfl) (fun _ _ _ h => h) (Or.inl ⟨by rfl, ?_⟩) hHeld ?_
      · intro w hSw
        exact exec_load_row 76 _ rfl (H + 2) rfl 76 _ (0, 0) _ hSw.1 Tryz.underlying76 rfl hinfq
      show anyK _ _ _ _ _ _ _ _ (Act.put _ (some 23) _) _
      simp only [Act.put, List.setIfInBounds_toArray, List.set_cons_zero, List.set_cons_succ]
      refine anyK_take (i := 1) (v := ?_) rfl (by kernel_rfl) (by kernel_rfl) (by kernel_rfl) (N := 7) (by kernel_rfl) (by kernel_rfl) (by kernel_rfl) (fun _ _ _ h => h) (Or.inl ⟨by rfl, ?_⟩) hHeld ?_
      rotate_left 1
      · intro w hSw
        go_simp
        try with_reducible rfl
      show anyK _ _ _ _ _ _ _ _ (Act.put _ (some 24) _) _
      simp only [Act.put, List.setIfInBounds_toArray, List.set_cons_zero, List.set_cons_succ]
      refine anyK_take (i := 2) (v := ?_) rfl (by kernel_rfl) (by kernel_rfl) (by kernel_rfl) (N := 7) (by kernel_rfl) (by kernel_rfl) (by kernel_rfl) (fun _ _ _ h => h) (Or.inl ⟨by rfl, ?_⟩) hHeld ?_
      rotate_left 1
      · intro w hSw
        go_simp
        try with_reducible rfl
      show anyK _ _ _ _ _ _ _ _ (Act.put _ (some 25) _) _
      simp only [Act.put, List.setIfInBounds_toArray, List.set_cons_zero, List.set_cons_succ]
      clear hHeld
      refine anyK_one (i := 3) (by kernel_rfl) rfl (fun Kk hKk => ?_)
      go_simp
      (go_at_call 130; refine (HOf.out _).mono ?_; rintro e w1 ⟨rfl, i1, hxx⟩)
      have he1 := hd0.trans hxx
      go_wp2_with fail
      refine hKk.out _ _ (fun _ => ⟨(he1.block _ lq).trans hrq, cellKeep he1 lH l16, cellKeep he1 lH l17⟩) ?_
      clear hKk Kk hxx
      simp only [List.setIfInBounds_toArray, List.set_cons_zero, List.set_cons_succ]
      refine anyK_one (i := 4) (by kernel_rfl) rfl (fun Kk hKk => ?_)
      go_simp
      (go_at_call 125; refine (HAd.out w1 he1 i1).mono ?_; rintro e w2 ⟨s9, a9, n9, c9, rfl, i9, hxx⟩)
      have he2 := he1.trans hxx
      go_wp2_with fail
      refine hKk.out _ _ (fun _ => ⟨(he2.block _ lq).trans hrq, cellKeep he2 lH l16, cellKeep he2 lH l17⟩) ?_
      clear hKk Kk hxx
      simp only [List.setIfInBounds_toArray, List.set_cons_zero, List.set_cons_succ]
      refine anyK_one (i := 5) (by kernel_rfl) rfl (fun Kk hKk => ?_)
      go_simp
      (go_at_call 90; refine (HLo.out w2 he2 s9 a9 n9 c9 i9).mono ?_; rintro e w3 ⟨cr, y, rfl, hcr, hy, hxx⟩)
      have he3 := he2.trans hxx
      go_wp2_with fail
      refine hKk.out _ _ (fun _ => ⟨(he3.block _ lq).trans hrq, cellKeep he3 lH l16, cellKeep he3 lH l17⟩) ?_
      clear hKk Kk hxx
      simp only [List.setIfInBounds_toArray, List.set_cons_zero, List.set_cons_succ]
      obtain ⟨c1, hr1, hs1, hone, hinf, rr, hnm, hE'⟩ := fin_num hcr (HZ.out.ext he3) (HE.out.trans he3) (by rw [HH.out]; omega)
      have heq : EqN y (nHf x) := by
        have e1 : ext8 (hfN f 8) = addR (trR 2 x.a) (trR (-2) x.a) := by rw [ext8_hfN, ← Hf.out, ext8_nmF Hx.out.anti]
        rw [e1] at hy
        exact hy
      have Hend := Lib.hid (show NmA (w3.setRow (H + 1) cr) cr y (P + 4) (E + 1) ∧ EqN y (nHf x) ∧ Ext w (w3.setRow (H + 1) cr) from ⟨hnm, heq, hE'⟩)
      clear hnm heq hE' hcr hy
      refine anyK_one (i := 6) (by kernel_rfl) rfl (fun Kk hKk => ?_)
      refine stepK_storeR rfl rfl 78 _ _ rfl (H + 1) cr rfl rfl 78 _ hr1 hinf hs1 hone ?_
      refine hKk.out _ _ (fun h => Bool.noConfusion (show true = false from h)) ?_
      clear hKk Kk
      simp only [List.setIfInBounds_toArray, List.set_cons_zero, List.set_cons_succ]
      refine anyK_done (by kernel_rfl) ?_ _
      go_wp2_with fail
      refine bodyPost_ret (v := .agg cr) ?_ rfl ⟨_, _, rfl, Hend.out⟩
      exact results_cell_row rfl _ _ (H + 1) _ _ _ _ rfl rr Tryz.underlying78 rfl hinf
    have hlt : j < 8 := by omega
    have q1 : (j : Int) < 8 := by omega
    have q0 : (0 : Int) ≤ (j : Int) := by omega
    obtain ⟨s1, a1, n1, c1, y0, y1, _, _, hI1⟩ := hA.get j (by omega)
    have wk : IntKind.i64.wrap ((j : Int) + 1) = ((j + 1 : Nat) : Int) := by rw [IntKind.wrap_i64]; omega
    have wk2 : IntKind.i64.wrap ((j : Int) + 2) = (j : Int) + 2 := by rw [IntKind.wrap_i64]; omega
    have wk3 : IntKind.i64.wrap ((j : Int) - 2) = (j : Int) - 2 := by rw [IntKind.wrap_i64]; omega
    have HAd := Lib.hid (rowAdd_any (H + 2) 8 76 (hfN f j) ((j : Int) + 2) s1 a1 n1 c1 (f j) wo hN (by decide) hI1 K HK.out (HFf.out j hlt) (HF.out j hj))
    have Hj1 := Lib.hid (show j + 1 ≤ 8 by omega)
    have HZ := Lib.hid hZ; have HA := Lib.hid hA; have HE := Lib.hid hE; have Hjk := Lib.hid hjk; have HI1 := Lib.hid hI1; have Hlt := Lib.hid hlt
    clear hI1 hN hZ hA hE hjk hj8 hj hlt
    go_wp2_with fail
    refine HAd.out.mono ?_
    rintro e w2 ⟨rfl, hN2, hC2⟩
    have HZ2 := Lib.hid (HZ.out.chg hC2 (by omega)); have HA2 := Lib.hid (HA.out.chg hC2 (by omega)); have HE2 := Lib.hid (hC2.ext HE.out (by rw [HH.out]; omega)); have HI2 := Lib.hid (HI1.out.keep64 hC2.keep)
    have lA := HA.out.lt
    have z0 : w2.cell? ⟨H, j * 2, none⟩ = some (.int .i64 s1) := by
      have hb := hC2.block H (by omega) lA
      simp only [World.cell?] at y0 ⊢
      rw [hb]; exact y0
    have z1 : w2.cell? ⟨H, j * 2 + 1, none⟩ = some (.slice a1 n1 c1) := by
      have hb := hC2.block H (by omega) lA
      simp only [World.cell?] at y1 ⊢
      rw [hb]; exact y1
    have HAd2 := Lib.hid (rowAdd_any (H + 2) 8 76 _ ((j : Int) - 2) s1 a1 n1 c1 (f j) w2 hN2 (by decide) HI2.out K HK.out (HFf.out j Hlt.out) (HF2.out j Hlt.out))
    clear hN2 hC2 HAd HZ HA HE y0 y1 HI1 lA HI2
    go_wp2_with fail
    refine HAd2.out.mono ?_
    rintro e w3 ⟨rfl, hN3, hC3⟩
    have Hend := Lib.hid (show Nums w3 (H + 2) 8 76 (hfN f (j + 1)) ∧ Nums w3 (H + 1) 9 78 (fun _ => 0) ∧ Nums w3 H 9 78 f ∧ Ext w w3 from
      ⟨hN3, HZ2.out.chg hC3 (by omega), HA2.out.chg hC3 (by omega), hC3.ext HE2.out (by rw [HH.out]; omega)⟩)
    clear hN3 hC3 HAd2 HZ2 HA2 HE2 z0 z1
    go_wp2_with fail
    go_roundg (8 - (j + 1))
    case measure => have := Hjk.out; have := Hj1.out; omega
    case rel => exact ⟨j + 1, rfl, Hj1.out, rfl, Hend.out⟩
end Go.Proofs.YtfjnlopbmkimiaaGreatDoor
namespace Go.Proofs.YtfjnlopbmkimiaaGreatDoor
open Go.RowKit

theorem fault_info : (Tryz.prog.info? 31).map (·.size) = some 2 := by kernel_rfl
theorem fault_one (a b : Int) : (#[.int .i64 a, .int .i64 b] : Array Value).all (·.oneCell') = true := by simp [Value.oneCell']
end Go.Proofs.YtfjnlopbmkimiaaGreatDoor
namespace Go.Proofs.YtfjnlopbmkimiaaGreatDoor
open Go.RowKit

/-- .. among the first n. -/
def lenN (f : Nat → Int) : Nat → Nat
  | 0 => 0
  | n + 1 => if 0 < n ∧ f n = 0 then lenN f n else n + 1
theorem lenN_le (f : Nat → Int) : ∀ n, lenN f n ≤ n
  | 0 => Nat.le_refl _
  | n + 1 => by
    simp only [lenN]
    split
    · have := lenN_le f n; omega
    · exact Nat.le_refl _
set_option maxRecDepth 100000 in
set_option maxHeartbeats 4000000 in
theorem rowLength_any (g m : Nat) (t : TypeId) (f : Nat → Int) (w : World) (h : Nums w g m t f) (hm : 8 ≤ m) :
    Calls Tryz.prog 57 #[.pointer (some ⟨g, 0, none⟩)] w fun e w' => e = .returned (.int .i64 (lenN f 8 : Nat)) ∧ Ext w w' := by
  have Hh := Lib.hid h; have Hm := Lib.hid hm
  obtain ⟨L, hL⟩ : ∃ L, lenN f 8 = L := ⟨_, rfl⟩
  rw [hL]
  have HL := Lib.hid hL
  clear h hm hL
  go_enter Tryz.func57, Tryz.ntmps57
  go_wp2_with fail
  go_loopg [3] 8 (fun kk s3 wr => ∃ k : Nat, s3 = .int .i64 (k : Int) ∧ k ≤ 8 ∧ 0 < k ∧ k = kk ∧ Ext w wr ∧ lenN f k = L)
  case atStart => exact ⟨8, rfl, by omega, by omega, rfl, Ext.refl _, HL.out⟩
  case round =>
    obtain ⟨k, rfl, hk, hk0, hkk, hx, hz⟩ := hrel
    have Hz := Lib.hid hz; have Hkk := Lib.hid hkk
    clear hz hkk
    by_cases hk1 : k = 1
    · subst hk1
      have HkL : Hid (1 = L) := Lib.hid (by rw [← Hz.out]; simp [lenN])
      go_wp2_with fail
      go_ret
      exact ⟨congrArg (fun b : Nat => Ending.returned (Value.int .i64 (b : Int))) HkL.out, hx⟩
    obtain ⟨j, rfl⟩ : ∃ j, k = j + 1 := ⟨k - 1, by omega⟩
    have q1 : (1 : Int) < ((j + 1 : Nat) : Int) := by omega
    have wj : IntKind.i64.wrap (((j + 1 : Nat) : Int) - 1) = (j : Int) := by rw [IntKind.wrap_i64]; omega
    have q2 : (0 : Int) ≤ (j : Int) := by omega
    have q3 : (j : Int) < 8 := by omega
    obtain ⟨s, a, n, c, l1, l2, _, _, hI⟩ := (Hh.out.ext hx).get j (by have := Hm.out; omega)
    have Hc := Lib.hid hI.cmp3
    have Hs := Lib.hid (Sign_any s (.slice a n c))
    have Hx := Lib.hid hx; have Hj := Lib.hid (show 0 < j ∧ j + 1 ≤ 8 by omega)
    clear hI hx hk hk0 hk1
    obtain ⟨wo, rfl⟩ : ∃ wo : World, wo = wr := ⟨_, rfl⟩
    go_wp2_with fail
    refine (Hs.out wo).mono ?_
    rintro e w2 ⟨rfl, hx2⟩
    have Hx2 := Lib.hid (Hx.out.trans hx2)
    clear hx2 l1 l2 Hs
    rw [Hc.out]
    by_cases hz : f j = 0
    · have b1 : (cmp3 (f j) 0 == 0) = true := by rw [hz]; rfl
      have Hn : Hid (lenN f j = L) := Lib.hid (by rw [← Hz.out]; simp only [lenN]; rw [if_pos ⟨Hj.out.1, hz⟩])
      clear hz Hc
      go_wp2_with fail
      go_roundg j
      case measure => have := Hkk.out; omega
      case rel => exact ⟨j, rfl, by have := Hj.out; omega, Hj.out.1, rfl, Hx2.out, Hn.out⟩
    · have b1 : (cmp3 (f j) 0 == 0) = false := by
        have : cmp3 (f j) 0 ≠ 0 := fun e => hz (cmp3_zero.1 e)
        simp [this]
      have HkL : Hid (j + 1 = L) := Lib.hid (by rw [← Hz.out]; simp only [lenN]; rw [if_neg (fun h => hz h.2)])
      clear hz Hc
      go_wp2_with fail
      go_ret
      exact ⟨congrArg (fun b : Nat => Ending.returned (Value.int .i64 (b : Int))) HkL.out, Hx2.out⟩
end Go.Proofs.YtfjnlopbmkimiaaGreatDoor
namespace Go.Proofs.YtfjnlopbmkimiaaGreatDoor
open Go.RowKit

theorem byte_info : (Tryz.prog.info? 5).map (fun i => (i.zero, i.size, i.bytes)) = some (some (.int .u8 0), 1, 1) := by kernel_rfl
theorem bld_size : (Tryz.prog.info? 110).map (·.size) = some 2 := by kernel_rfl
theorem bld_lies : liesAt Tryz.prog Tryz.prog.depth 110 (2 / Tryz.prog.cellsOf 110) 0 110 1 = true := by kernel_rfl

/-- A builder in block b that holds these cells; all that it owns lies from b on. -/
abbrev Bld (w : World) (b : Nat) (bs : List Value) : Prop := Lib.IsBuilderF 110 5 b b bs w
/-- What is written into the builder b leaves all else as it was. -/
structure Wrt (b : Nat) (w w' : World) : Prop where
  low : Below b w w'
  oth : Lib.OthersKept 5 (some b) w w'
theorem Wrt.refl (b : Nat) (w : World) : Wrt b w w := ⟨Below.refl b w, Lib.OthersKept.refl _ _ w⟩
/-- What lay there ahead of the builder stands. -/
theorem Wrt.ext {b : Nat} {w0 w w' : World} (h : Wrt b w w') (k : Ext w0 w) (hb : w0.heap.size ≤ b) : Ext w0 w' := Below.trans k (h.low.mono hb)
theorem Bld.lt {w : World} {b : Nat} {bs : List Value} (h : Bld w b bs) : b < w.heap.size := by rcases h with h | h <;> exact h.lt
theorem bld_new (w : World) : Bld (w.alloc (.cells #[.pointer none, .slice none 0 0] 110)) w.heap.size [] := Lib.IsBuilderF.of (Lib.fresh_isBuilder _ _ w)

set_option maxHeartbeats 1000000 in
set_option maxRecDepth 100000 in
theorem copyCheck_used (b : Nat) (w : World) (h0 : w.cell? ⟨b, 0, none⟩ = some (.pointer (some ⟨b, 0, none⟩))) :
    Calls Tryz.prog 93 #[.pointer (some ⟨b, 0, none⟩)] w fun e w' => e = .returned (.tuple #[]) ∧ w' = w := by
  obtain ⟨j, hj, _⟩ := Option.map_eq_some_iff.1 bld_size
  go_enter Tryz.func93, Tryz.ntmps93
  go_wp2
  rw [Lib.run_neq_ptr_same w _ Tryz.underlying107 hj]
  go_wp2
  go_end0
  exact ⟨rfl, rfl⟩

set_option maxHeartbeats 1000000 in
set_option maxRecDepth 100000 in
theorem copyCheck_fresh (b : Nat) (w : World) (h0 : w.cell? ⟨b, 0, none⟩ = some (.pointer none)) (hsh : w.shape? b = some (110, 2)) (hfz : w.frozen? ⟨b, 0, none⟩ = false) :
    Calls Tryz.prog 93 #[.pointer (some ⟨b, 0, none⟩)] w fun e w' => e = .returned (.tuple #[]) ∧ w' = w.setCell ⟨b, 0, none⟩ (.pointer (some ⟨b, 0, none⟩)) := by
  obtain ⟨j, hj, hjs⟩ := Option.map_eq_some_iff.1 bld_size
  go_enter Tryz.func93, Tryz.ntmps93
  go_wp2
  rw [Lib.run_to_unsafe w ⟨b, 0, none⟩ Tryz.underlying107 Tryz.underlying167 hj (by rw [hjs]; decide) hsh (Nat.zero_lt_succ 1)]
  simp only [Result.andThen]
  rw [Oper.upon_value]
  go_wp2
  rw [run_callFunc_extern Tryz.func132 (by kernel_rfl) (by kernel_rfl) (by kernel_rfl) (e := Extern.AbiNoEscape.same) (by kernel_rfl), Lib.run_noEscape]
  simp only [Result.andThen]
  rw [Oper.upon_value]
  go_wp2
  rw [Lib.run_from_unsafe w ⟨b, 0, none⟩ Tryz.underlying167 Tryz.underlying107 hj hsh bld_lies]
  simp only [Result.andThen]
  rw [Oper.upon_value]
  go_wp2
  go_end0
  exact ⟨rfl, rfl⟩

theorem copyCheck_any (b : Nat) (bs : List Value) (w : World) (h : Bld w b bs) :
    Calls Tryz.prog 93 #[.pointer (some ⟨b, 0, none⟩)] w fun e w' => e = .returned (.tuple #[]) ∧ Lib.BuilderAtF 110 5 b b (.pointer (some ⟨b, 0, none⟩)) bs w' ∧ Wrt b w w' := by
  cases h with
  | inl h =>
    refine (copyCheck_fresh b w h.cell0 h.shape h.frozen0).mono ?_
    intro e w' hh
    obtain ⟨he, hw⟩ := hh
    subst hw
    exact ⟨he, h.used _, ⟨Below.setCell (Below.refl b w) (Nat.le_refl b) _, (Lib.OthersKept.refl _ (some b) w).setCell ⟨b, 0, none⟩ rfl _⟩⟩
  | inr h =>
    refine (copyCheck_used b w h.cell0).mono ?_
    intro e w' hh
    obtain ⟨he, hw⟩ := hh
    subst hw
    exact ⟨he, h, Wrt.refl b w'⟩

theorem bld_grown {w1 w2 : World} {b : Nat} {p v : Value} {bs : List Value} {n : Nat} {row : Option Nat} (hbk : w1.heap[b]? = some (.cells #[p, v] 110 (0, 0))) (_hown : w1.ownsRowF b 5 1 v n bs) (hne : v.ownBlock ≠ some b) (hg : w1.grownBy w2 row) (hr : row = v.ownBlock) :
    w2.heap[b]? = some (.cells #[p, v] 110 (0, 0)) := by
  subst hr
  rw [hg.block b (Array.getElem?_eq_some_iff.1 hbk).1 (fun e => hne e.symm)]; exact hbk

set_option maxHeartbeats 2000000 in
set_option maxRecDepth 100000 in
/-- A text is written. -/
theorem writeString_any (b : Nat) (bs : List Value) (s : ByteArray) (w : World) (h : Bld w b bs) (hlen : bs.length + s.size ≤ 140737488355328) :
    Calls Tryz.prog 59 #[.pointer (some ⟨b, 0, none⟩), .string s] w fun e w' => e = .returned (.tuple #[.int .i64 s.size, .nilIface]) ∧ Bld w' b (bs ++ Lib.strCells s) ∧ Wrt b w w' := by
  obtain ⟨i0, hi, hz0, hz1, hz2⟩ := info_parts byte_info
  have hbw := h.lt
  go_enter Tryz.func59, Tryz.ntmps59
  go_wp2_with fail
  refine (copyCheck_any b bs w h).mono ?_
  rintro e w1 ⟨rfl, h1, hW1⟩
  obtain ⟨hB, v, hbk, hown, hne⟩ := h1
  have hs1 := hW1.low.size
  have c0 : w1.cell? ⟨b, 0, none⟩ = some (.pointer (some ⟨b, 0, none⟩)) := by rw [Lib.cell_of_heap hbk]; rfl
  have c1 : w1.cell? ⟨b, 1, none⟩ = some v := by rw [Lib.cell_of_heap hbk]; rfl
  go_wp2_with (at_builtin; refine Lib.wpList_append_own_stringF _ rfl _ _ 108 9 rfl b 5 i0 Tryz.underlying108 Tryz.underlying9 hi hz0 hz1 hz2 _ _ _ rfl hown s rfl ?b1 ?b2 ?b3 ?_)
  case b1 => unfold maxLen; omega
  case b2 => omega
  case b3 => omega
  intro v' w2 hown' hgrow _
  have hb2 := bld_grown hbk hown hne hgrow rfl
  have d0 : w2.cell? ⟨b, 0, none⟩ = some (.pointer (some ⟨b, 0, none⟩)) := by rw [Lib.cell_of_heap hb2]; rfl
  have d1 : w2.cell? ⟨b, 1, none⟩ = some v := by rw [Lib.cell_of_heap hb2]; rfl
  have f1 : w2.frozen? ⟨b, 1, none⟩ = false := Lib.frozen_of_heap hb2 1
  obtain ⟨ao, n', cap, rfl⟩ : ∃ ao n' cap, v' = .slice ao n' cap := by
    rcases hown'.2 with ⟨hv, _⟩ | ⟨g, cap, cur, fz, hv, _⟩ <;> exact ⟨_, _, _, hv⟩
  have HF := Lib.hid (show Bld (w2.setCell ⟨b, 1, none⟩ (.slice ao n' cap)) b (bs ++ Lib.strCells s) from Or.inr (Lib.BuilderAtF.put (T := 110) (e := 5) (Nat.le_refl b) hb2 (bs' := bs ++ Lib.strCells s) (by simpa [Lib.strCells_length] using hown') (by decide)))
  have HW := Lib.hid (show Wrt b w (w2.setCell ⟨b, 1, none⟩ (.slice ao n' cap)) from ⟨(hW1.low.grown hgrow (by omega) (fun k hk => (hown.lt k hk).1)).setCell (p := ⟨b, 1, none⟩) (Nat.le_refl b) _, (hW1.oth.grown hgrow (Lib.ownsRowF_kind hown)).setCell ⟨b, 1, none⟩ rfl _⟩)
  go_wp2
  go_ret2
  exact ⟨rfl, HF.out, HW.out⟩

set_option maxHeartbeats 2000000 in
set_option maxRecDepth 100000 in
/-- A byte is written. -/
theorem writeByte_any (b : Nat) (bs : List Value) (c : Int) (w : World) (h : Bld w b bs) (hlen : bs.length + 1 ≤ 140737488355328) :
    Calls Tryz.prog 58 #[.pointer (some ⟨b, 0, none⟩), .int .u8 c] w fun e w' => e = .returned .nilIface ∧ Bld w' b (bs ++ [.int .u8 c]) ∧ Wrt b w w' := by
  obtain ⟨i0, hi, hz0, hz1, hz2⟩ := info_parts byte_info
  have hbw := h.lt
  go_enter Tryz.func58, Tryz.ntmps58
  go_wp2_with fail
  refine (copyCheck_any b bs w h).mono ?_
  rintro e w1 ⟨rfl, h1, hW1⟩
  obtain ⟨hB, v, hbk, hown, hne⟩ := h1
  have hs1 := hW1.low.size
  have c0 : w1.cell? ⟨b, 0, none⟩ = some (.pointer (some ⟨b, 0, none⟩)) := by rw [Lib.cell_of_heap hbk]; rfl
  have c1 : w1.cell? ⟨b, 1, none⟩ = some v := by rw [Lib.cell_of_heap hbk]; rfl
  go_wp2_with (at_builtin; refine wpList_append_ownF _ rfl _ _ 108 rfl b 5 i0 (.int .u8 0) 1 1 Tryz.underlying108 hi hz0 hz1 hz2 rfl (by decide) _ _ _ rfl (hown.alloc _) ⟨w1.heap.size, 0, none⟩ 1 1 [.int .u8 c] rfl rfl ?b0 ?b1 ?b2 ?b3 ?b4 ?_)
  case b0 =>
    intro j u hj
    cases j with
    | zero => simp at hj; subst hj; simp [Addr.add]
    | succ j => simp at hj
  case b1 => intro u hu; simp at hu; subst hu; rfl
  case b2 => unfold maxLen; omega
  case b3 => omega
  case b4 => simp; omega
  intro v' w2 hown' hgrow _
  have hbk' : (w1.alloc (.cells #[.int .u8 c] 5)).heap[b]? = some (.cells #[.pointer (some ⟨b, 0, none⟩), v] 110 (0, 0)) := by rw [Lib.alloc_old w1 _ b (by omega)]; exact hbk
  have hb2 := bld_grown hbk' (hown.alloc _) hne hgrow rfl
  have d0 : w2.cell? ⟨b, 0, none⟩ = some (.pointer (some ⟨b, 0, none⟩)) := by rw [Lib.cell_of_heap hb2]; rfl
  have d1 : w2.cell? ⟨b, 1, none⟩ = some v := by rw [Lib.cell_of_heap hb2]; rfl
  have f1 : w2.frozen? ⟨b, 1, none⟩ = false := Lib.frozen_of_heap hb2 1
  obtain ⟨ao, n', cap, rfl⟩ : ∃ ao n' cap, v' = .slice ao n' cap := by
    rcases hown'.2 with ⟨hv, _⟩ | ⟨g, cap, cur, fz, hv, _⟩ <;> exact ⟨_, _, _, hv⟩
  have HF := Lib.hid (show Bld (w2.setCell ⟨b, 1, none⟩ (.slice ao n' cap)) b (bs ++ [.int .u8 c]) from Or.inr (Lib.BuilderAtF.put (T := 110) (e := 5) (Nat.le_refl b) hb2 (bs' := bs ++ [.int .u8 c]) (by simpa using hown') (by decide)))
  have HW := Lib.hid (show Wrt b w (w2.setCell ⟨b, 1, none⟩ (.slice ao n' cap)) from ⟨((hW1.low.alloc (by omega) _).grown hgrow (by simp; omega) (fun k hk => (hown.lt k hk).1)).setCell (p := ⟨b, 1, none⟩) (Nat.le_refl b) _, ((hW1.oth.alloc _).grown hgrow (Lib.ownsRowF_kind (hown.alloc _))).setCell ⟨b, 1, none⟩ rfl _⟩)
  go_wp2
  go_ret
  exact ⟨rfl, HF.out, HW.out⟩

end Go.Proofs.YtfjnlopbmkimiaaGreatDoor
