/-
  Shift. A number shifted by any distance: shift. A number shifted by any distance: shift, its walk. A row shifted: row.shift. A whole number of circuits written into a variable. Rows of eight as sums of powers of z: what add, addProduct, Turn, Conj, Half, Mul make of them, in plain numbers. The one way in which a number of circuits is kept, in plain numbers: what lowest answers; half of a number; the laws' last steps. Circuits: what they are, in plain numbers; what is wrong with one. Lists of ints in memory. Amplitudes in plain numbers: the lowest form of a number; how great an amplitude can be behind n operations; states, gates, outcomes. Nothing of the program stands here. The cells of a row, and of a number of circuits, as a whole: stored, loaded, answered at once. The reference's numbers: digits to the base 10000 in slices of ints. What memory holds; zmade. The reference's numbers: dadd.
-/
import Derived.Test.YtfjnlopbmkimiaaGreatDoorProg
import Derived.Test.YtfjnlopbmkimiaaGreatDoorRows
import Derived.BigQuiet
import Derived.Deep.Cut
import Derived.Deep.CutRange
import Derived.Deep.LoopGhost
import Derived.Deep.MidRow
import Derived.Deep.QuietTactic
import Derived.Deep.RegionHeld3
import Derived.Ground.Names2Prog
import Derived.Laws.Bits64b
import Derived.Laws.CopyOwn
import Derived.Laws.ResultCell
import Derived.Laws.Rows
import Derived.Lib.BitFns
import Derived.Lib.Hide
import Derived.Lib.ItoaNum
import Derived.Lib.Strings
import Derived.Lib.TrailingZeros
import Derived.OwnWalk
import Derived.Shelf.Bits.Mul64
import Derived.Shelf.LaysM
import Derived.Shelf.Slices.SearchI
import Derived.Shelf.Small.Bits
import Derived.Shelf.Small.Wraps
import Derived.Shelf.Spec.BitsCarry
import Derived.Shelf.Spec.TrailingZeros
import Derived.Shelf.Strconv.Itoa0
import Derived.Shelf.Strconv.Itoa1
import Derived.Shelf.Strconv.Itoa2
import Derived.Shelf.Strconv.Itoa3
import Derived.Shelf.Strings.Builder1
import Derived.Shelf.Strings.BuilderF
import Derived.Shelf.Strings.BuilderK
import Derived.WalkKit
import Derived.WalkLawsBesides
import Derived.WalkSpells
import Derived.Test.YtfjnlopbmkimiaaGreatDoorS00Mem
import Derived.Test.YtfjnlopbmkimiaaGreatDoorShelf
import Derived.Test.YtfjnlopbmkimiaaGreatDoorS02ShiftI
import Derived.Test.YtfjnlopbmkimiaaGreatDoorS03GuessD
import Derived.Test.YtfjnlopbmkimiaaGreatDoorS04IntB
import Derived.Test.YtfjnlopbmkimiaaGreatDoorS05IntD
import Derived.Test.YtfjnlopbmkimiaaGreatDoorS06GcB
import Derived.Test.YtfjnlopbmkimiaaGreatDoorS07Rg
namespace Go.Proofs.YtfjnlopbmkimiaaGreatDoor
open Go.RowKit

theorem two_cast (k : Nat) : ((2 ^ k : Nat) : Int) = (2 : Int) ^ k := by simp

theorem zfi_new (w : World) (o1 o2 : Obj) : ((w.alloc o1).alloc o2 |>.alloc (.cells #[.int .i64 0, .int .i64 0] 31)).heap[w.heap.size + 1 + 1]? = some (.cells #[.int .i64 0, .int .i64 0] 31 (0, 0)) := by
  have h := heap_alloc_new ((w.alloc o1).alloc o2) (.cells #[.int .i64 0, .int .i64 0] 31)
  rw [show ((w.alloc o1).alloc o2).heap.size = w.heap.size + 1 + 1 from by simp] at h
  exact h

set_option maxHeartbeats 2000000 in
set_option maxRecDepth 100000 in
/-- Shift, within its bounds: upward. -/
theorem Shift_up (sm : Int) (ao : Option Addr) (n c : Nat) (z : Int) (N : Nat) (w : World) (h : IsInt w sm ao n c z) (hN : N ≤ 10000) (K : Nat) (hK : K ≤ 4194304) (hf : Fit K z) :
    Calls Tryz.prog 150 #[.agg #[.int .i64 sm, .slice ao n c], .int .i64 (N : Int)] w fun e w' => ∃ (s' : Int) (a' : Option Addr) (n' c' : Nat), e = .returned (.tuple #[.agg #[.int .i64 s', .slice a' n' c'], .agg #[.int .i64 0, .int .i64 0]]) ∧ IsInt w' s' a' n' c' (z * ((2 ^ N : Nat) : Int)) ∧ Ext w w' := by
  have hE := (Ext.trans (Ext.trans (Ext.alloc w (.cells #[.int .i64 sm, .slice ao n c] 74)) (Ext.alloc _ (.cells #[.int .i64 0, .slice none 0 0] 74))) (Ext.alloc _ (.cells #[.int .i64 0, .int .i64 0] 31)))
  have hR : Res (((w.alloc (.cells #[.int .i64 sm, .slice ao n c] 74)).alloc (.cells #[.int .i64 0, .slice none 0 0] 74)).alloc (.cells #[.int .i64 0, .int .i64 0] 31)) (w.heap.size + 1) := by
    have h1 := heap_alloc_new (w.alloc (.cells #[.int .i64 sm, .slice ao n c] 74)) (.cells #[.int .i64 0, .slice none 0 0] 74)
    rw [show (w.alloc (.cells #[.int .i64 sm, .slice ao n c] 74)).heap.size = w.heap.size + 1 from by simp] at h1
    exact ⟨by simp, (Below.heap_alloc _ _ _ (by simp)).trans h1⟩
  have hF : FRes (((w.alloc (.cells #[.int .i64 sm, .slice ao n c] 74)).alloc (.cells #[.int .i64 0, .slice none 0 0] 74)).alloc (.cells #[.int .i64 0, .int .i64 0] 31)) (w.heap.size + 1 + 1) :=
    ⟨by simp, zfi_new w _ _⟩
  have H := hid h; have Hf := hid hf
  have i1 : ¬ (N : Int) < -10000 := by omega
  have i2 : ¬ (10000 : Int) < (N : Int) := by omega
  have i3 : ¬ (N : Int) < 0 := by omega
  have hw : IntKind.u64.wrap (N : Int) = (N : Int) := by rw [IntKind.wrap_u64]; omega
  clear h hf
  go_enter Tryz.func150, Tryz.ntmps150
  go_wp2_with fail
  generalize ((w.alloc (.cells #[.int .i64 sm, .slice ao n c] 74)).alloc (.cells #[.int .i64 0, .slice none 0 0] 74)).alloc (.cells #[.int .i64 0, .int .i64 0] 31) = W0 at *
  refine (double_any sm ao n c z N W0 (H.out.ext hE) (by omega) K hK Hf.out).mono ?_
  rintro e w3 ⟨s4, a4, n4, c4, rfl, hI4, he4⟩
  have hr4 := hR.ext he4; have hf4 := hF.ext he4
  have k0 := hr4.c0; have k1 := hr4.c1; have g0 := hr4.f0; have g1 := hr4.f1
  have k2 := hf4.c0; have k3 := hf4.c1; have g2 := hf4.f0; have g3 := hf4.f1
  go_wp2_with fail
  exact bodyPost_ret (v := .tuple #[.agg #[.int .i64 s4, .slice a4 n4 c4], .agg #[.int .i64 0, .int .i64 0]]) (by simp [results, Tryz.results150, go_sem, k0, k1, k2, k3]) rfl
    ⟨s4, a4, n4, c4, rfl, (hI4.cast (by rw [two_cast])).keep64 (Keep64.set4 (.i64 k0) (.slice k1) (.i64 k2) (.i64 k3) (notW_i64 _) (notW_slice _ _ _) (notW_i64 _) _), ((((hE.trans he4).set (show w.heap.size ≤ w.heap.size + 1 by omega) _).set (show w.heap.size ≤ w.heap.size + 1 by omega) _).set (show w.heap.size ≤ w.heap.size + 1 + 1 by omega) _).set (show w.heap.size ≤ w.heap.size + 1 + 1 by omega) _⟩

set_option maxHeartbeats 2000000 in
set_option maxRecDepth 100000 in
/-- Downward. -/
theorem Shift_down (sm : Int) (ao : Option Addr) (n c : Nat) (z : Int) (N : Nat) (w : World) (h : IsInt w sm ao n c z) (hN : N ≤ 10000) (hN1 : 1 ≤ N) (K : Nat) (hK : K ≤ 4194304) (hK1 : 1 ≤ K) (hf : Fit K z) (hbr : Bru w) :
    Calls Tryz.prog 150 #[.agg #[.int .i64 sm, .slice ao n c], .int .i64 (-(N : Int))] w fun e w' => ∃ (s' : Int) (a' : Option Addr) (n' c' : Nat), e = .returned (.tuple #[.agg #[.int .i64 s', .slice a' n' c'], .agg #[.int .i64 0, .int .i64 0]]) ∧ IsInt w' s' a' n' c' (z / ((2 ^ N : Nat) : Int)) ∧ Ext w w' := by
  have hE := (Ext.trans (Ext.trans (Ext.alloc w (.cells #[.int .i64 sm, .slice ao n c] 74)) (Ext.alloc _ (.cells #[.int .i64 0, .slice none 0 0] 74))) (Ext.alloc _ (.cells #[.int .i64 0, .int .i64 0] 31)))
  have hR : Res (((w.alloc (.cells #[.int .i64 sm, .slice ao n c] 74)).alloc (.cells #[.int .i64 0, .slice none 0 0] 74)).alloc (.cells #[.int .i64 0, .int .i64 0] 31)) (w.heap.size + 1) := by
    have h1 := heap_alloc_new (w.alloc (.cells #[.int .i64 sm, .slice ao n c] 74)) (.cells #[.int .i64 0, .slice none 0 0] 74)
    rw [show (w.alloc (.cells #[.int .i64 sm, .slice ao n c] 74)).heap.size = w.heap.size + 1 from by simp] at h1
    exact ⟨by simp, (Below.heap_alloc _ _ _ (by simp)).trans h1⟩
  have hF : FRes (((w.alloc (.cells #[.int .i64 sm, .slice ao n c] 74)).alloc (.cells #[.int .i64 0, .slice none 0 0] 74)).alloc (.cells #[.int .i64 0, .int .i64 0] 31)) (w.heap.size + 1 + 1) :=
    ⟨by simp, zfi_new w _ _⟩
  have H := hid h; have Hf := hid hf; have Hbr := hid hbr
  obtain ⟨k, hk⟩ : ∃ k : Int, -(N : Int) = k := ⟨_, rfl⟩
  rw [hk]
  have i1 : ¬ k < -10000 := by omega
  have i2 : ¬ (10000 : Int) < k := by omega
  have i3 : k < 0 := by omega
  have i4 : -9223372036854775808 ≤ k := by omega
  have hw1 : IntKind.i64.wrap (-k) = (N : Int) := by rw [IntKind.wrap_i64]; omega
  have hw0 : -k = (N : Int) := by omega
  have hw : IntKind.u64.wrap (N : Int) = (N : Int) := by rw [IntKind.wrap_u64]; omega
  clear h hf hbr hk
  go_enter Tryz.func150, Tryz.ntmps150
  go_wp2_with fail
  generalize ((w.alloc (.cells #[.int .i64 sm, .slice ao n c] 74)).alloc (.cells #[.int .i64 0, .slice none 0 0] 74)).alloc (.cells #[.int .i64 0, .int .i64 0] 31) = W0 at *
  refine (halve_any sm ao n c z N W0 (H.out.ext hE) (by omega) K hK hK1 Hf.out (bru_ext Hbr.out hE)).mono ?_
  rintro e w3 ⟨s4, a4, n4, c4, rfl, hI4, he4⟩
  have hr4 := hR.ext he4; have hf4 := hF.ext he4
  have k0 := hr4.c0; have k1 := hr4.c1; have g0 := hr4.f0; have g1 := hr4.f1
  have k2 := hf4.c0; have k3 := hf4.c1; have g2 := hf4.f0; have g3 := hf4.f1
  go_wp2_with fail
  exact bodyPost_ret (v := .tuple #[.agg #[.int .i64 s4, .slice a4 n4 c4], .agg #[.int .i64 0, .int .i64 0]]) (by simp [results, Tryz.results150, go_sem, k0, k1, k2, k3]) rfl
    ⟨s4, a4, n4, c4, rfl, (hI4.cast (by rw [two_cast])).keep64 (Keep64.set4 (.i64 k0) (.slice k1) (.i64 k2) (.i64 k3) (notW_i64 _) (notW_slice _ _ _) (notW_i64 _) _), ((((hE.trans he4).set (show w.heap.size ≤ w.heap.size + 1 by omega) _).set (show w.heap.size ≤ w.heap.size + 1 by omega) _).set (show w.heap.size ≤ w.heap.size + 1 + 1 by omega) _).set (show w.heap.size ≤ w.heap.size + 1 + 1 by omega) _⟩

end Go.Proofs.YtfjnlopbmkimiaaGreatDoor
namespace Go.Proofs.YtfjnlopbmkimiaaGreatDoor
open Go.RowKit

/-- V is z times 2^b; below 0, z is so often divisible. -/
def ShV (b z V : Int) : Prop := (0 ≤ b ∧ z * ((2 ^ b.toNat : Nat) : Int) = V) ∨ (b ≤ 0 ∧ z = V * ((2 ^ (-b).toNat : Nat) : Int))
theorem ShV.zero {z V : Int} (h : ShV 0 z V) : z = V := by
  rcases h with ⟨_, h⟩ | ⟨_, h⟩ <;> simpa using h
theorem ShV.up {b z V : Int} {N : Nat} (h : ShV b z V) (hb : 0 < b) (hN : (N : Int) ≤ b) : ShV (b - N) (z * ((2 ^ N : Nat) : Int)) V := by
  rcases h with ⟨_, h⟩ | ⟨h0, _⟩
  · refine Or.inl ⟨by omega, ?_⟩
    rw [← h, Int.mul_assoc, ← Int.natCast_mul, ← Nat.pow_add]
    congr 4
    omega
  · omega
theorem ShV.down {b z V : Int} {N : Nat} (h : ShV b z V) (hb : b < 0) (hN : b ≤ -(N : Int)) : ShV (b + N) (z / ((2 ^ N : Nat) : Int)) V := by
  rcases h with ⟨h0, _⟩ | ⟨_, h⟩
  · omega
  · refine Or.inr ⟨by omega, ?_⟩
    have e : (-b).toNat = (-(b + N)).toNat + N := by omega
    rw [h, e, Nat.pow_add, Int.natCast_mul, ← Int.mul_assoc, Int.mul_ediv_cancel]
    have : 0 < 2 ^ N := Nat.pow_pos (by decide)
    omega
theorem ShV.fit {b z V : Int} {K : Nat} (h : ShV b z V) (hb : 0 ≤ b) (hV : Fit K V) : Fit K z := by
  unfold Fit at *
  rcases h with ⟨_, h⟩ | ⟨h0, h⟩
  · rw [← h, Int.natAbs_mul, Int.natAbs_natCast] at hV
    have : 0 < 2 ^ b.toNat := Nat.pow_pos (by decide)
    have := Nat.le_mul_of_pos_right z.natAbs this
    omega
  · obtain rfl : b = 0 := by omega
    simp at h
    rw [h]; exact hV
theorem Fit.div {z : Int} {K N : Nat} (h : Fit K z) : Fit K (z / ((2 ^ N : Nat) : Int)) := by
  unfold Fit at *
  have h1 := Int.natAbs_ediv_le_natAbs z ((2 ^ N : Nat) : Int)
  omega
end Go.Proofs.YtfjnlopbmkimiaaGreatDoor
namespace Go.Proofs.YtfjnlopbmkimiaaGreatDoor
open Go.RowKit

set_option maxRecDepth 100000 in
set_option maxHeartbeats 2000000 in
theorem shift_any (s : Int) (a : Option Addr) (n c : Nat) (z b0 V : Int) (w : World) (hI : IsInt w s a n c z) (K : Nat) (hK : K ≤ 4194304) (hK1 : 1 ≤ K) (hf : Fit K z) (hfV : Fit K V) (hb1 : -4611686018427387904 ≤ b0) (hb2 : b0 ≤ 4611686018427387904) (hV : ShV b0 z V) (hbr : Bru w) :
    Calls Tryz.prog 127 #[.agg #[.int .i64 s, .slice a n c], .int .i64 b0] w fun e w' => ∃ (s' : Int) (a' : Option Addr) (n' c' : Nat), e = .returned (.agg #[.int .i64 s', .slice a' n' c']) ∧ IsInt w' s' a' n' c' V ∧ Ext w w' := by
  have HI := Lib.hid hI; have Hf := Lib.hid hf; have HfV := Lib.hid hfV; have HV := Lib.hid hV; have Hbr := Lib.hid hbr; have HK := Lib.hid hK; have HK1 := Lib.hid hK1
  clear hI hf hfV hV hbr hK hK1
  obtain ⟨H, hH⟩ : ∃ H, w.heap.size = H := ⟨_, rfl⟩
  obtain ⟨U, hU⟩ : ∃ U, (w.alloc (.cells #[.int .i64 s, .slice a n c] 74)).alloc (.cells #[.int .i64 0, .slice none 0 0] 74) = U := ⟨_, rfl⟩
  have E0 : Ext w U := by rw [← hU]; exact (Ext.alloc _ _).trans (Ext.alloc _ _)
  have B0 : Box U H s a n c := by rw [← hU, ← hH]; exact (box_new w s a n c).ext (Ext.alloc _ _)
  have R0 : Box U (H + 1) 0 none 0 0 := by
    have := box_new (w.alloc (.cells #[.int .i64 s, .slice a n c] 74)) 0 none 0 0
    rw [← hU, ← hH]
    simpa using this
  have HU := Lib.hid hU; have HE0 := Lib.hid E0; have HB0 := Lib.hid B0; have HR0 := Lib.hid R0; have HH := Lib.hid hH
  clear hU E0 B0 R0 hH
  go_enter Tryz.func127, Tryz.ntmps127
  go_wp2_with fail
  rw [HU.out, HH.out]
  go_loopg [1, 5] b0.natAbs (fun kk s1 s5 wr => ∃ (b z' s' : Int) (a' : Option Addr) (n' c' : Nat), s1 = .int .i64 b ∧ b.natAbs = kk ∧ ShV b z' V ∧ Fit K z' ∧ Box wr H s' a' n' c' ∧ IsInt wr s' a' n' c' z' ∧ Box wr (H + 1) 0 none 0 0 ∧ Ext w wr ∧ -4611686018427387904 ≤ b ∧ b ≤ 4611686018427387904)
  case atStart => exact ⟨b0, z, s, a, n, c, rfl, rfl, HV.out, Hf.out, HB0.out, HI.out.ext HE0.out, HR0.out, HE0.out, hb1, hb2⟩
  case round =>
    clear HB0 HR0 HE0 HU
    obtain ⟨b, z', s', a', n', c', rfl, hkk, hS, hF, hB, hZ, hR, hE, h1, h2⟩ := hrel
    have HS := Lib.hid hS; have HF := Lib.hid hF; have HB := Lib.hid hB; have HZ := Lib.hid hZ; have HR := Lib.hid hR; have HE := Lib.hid hE; have Hkk := Lib.hid hkk
    clear hS hF hB hZ hR hE hkk
    obtain ⟨wo, rfl⟩ : ∃ wo : World, wo = wr := ⟨_, rfl⟩
    by_cases hb : b = 0
    · subst hb
      have e1 : ((0 : Int) != 0) = false := by decide
      have l0 := HB.out.c0; have l1 := HB.out.c1; have r0 := HR.out.c0; have r1 := HR.out.c1; have f0 := HR.out.f0; have f1 := HR.out.f1
      have bR := HR.out.own s' a' n' c'
      have k0 := bR.c0; have k1 := bR.c1
      have Hend := Lib.hid (show IsInt ((wo.setCell ⟨H + 1, 0, none⟩ (.int .i64 s')).setCell ⟨H + 1, 1, none⟩ (.slice a' n' c')) s' a' n' c' V ∧ Ext w ((wo.setCell ⟨H + 1, 0, none⟩ (.int .i64 s')).setCell ⟨H + 1, 1, none⟩ (.slice a' n' c')) from
        ⟨(HZ.out.cast HS.out.zero).keep64 (Keep64.set2 (.i64 r0) (.slice r1) (notW_i64 s') (.slice a' n' c')), HE.out.put2 (by rw [HH.out]; omega) _ _⟩)
      clear bR
      go_wp2_with fail
      exact bodyPost_ret (v := .agg #[.int .i64 s', .slice a' n' c']) (by simp [results, Tryz.results127, go_sem, k0, k1]) rfl ⟨s', a', n', c', rfl, Hend.out⟩
    have e1 : (b != 0) = true := rne_t hb
    go_upto_region 2 with fail
    go_cut [5] from 6 to 19 (fun s5 wx => wx = wo ∧ ∃ st : Int, s5 = .int .i64 st ∧ ((0 < b ∧ 1 ≤ st ∧ st ≤ 10000 ∧ st ≤ b) ∨ (b < 0 ∧ -10000 ≤ st ∧ st ≤ -1 ∧ b ≤ st)))
    case first =>
      go_wp2_with fail
      go_meet
      exact ⟨rfl, max (-10000) (min b 10000), rfl, by omega⟩
    case rest =>
    obtain ⟨rfl, st, rfl, hst⟩ := hcut
    have l0 := HB.out.c0; have l1 := HB.out.c1
    have wk : IntKind.i64.wrap (b - st) = b - st := by rw [IntKind.wrap_i64]; omega
    rcases hst with ⟨p1, p2, p3, p4⟩ | ⟨p1, p2, p3, p4⟩
    · obtain ⟨N, rfl⟩ : ∃ N : Nat, st = (N : Int) := ⟨st.toNat, by omega⟩
      have HSh := Lib.hid (Shift_up s' a' n' c' z' N wc HZ.out (by omega) K HK.out HF.out)
      have HS' := Lib.hid (HS.out.up p1 p4)
      have Hr := Lib.hid (show (b - N).natAbs < b.natAbs ∧ -4611686018427387904 ≤ b - N ∧ b - N ≤ 4611686018427387904 ∧ 0 ≤ b - N by omega)
      clear p1 p2 p3 p4 hb h1 h2 e1
      go_wp2_with fail
      refine HSh.out.mono ?_
      rintro e w2 ⟨s2, a2, n2, c2, rfl, hI2, hx2⟩
      have bx := HB.out.ext hx2; have bR := HR.out.ext hx2
      have l0' := bx.c0; have l1' := bx.c1; have g0 := bx.f0; have g1 := bx.f1
      have Hend := Lib.hid (show Box ((w2.setCell ⟨H, 0, none⟩ (.int .i64 s2)).setCell ⟨H, 1, none⟩ (.slice a2 n2 c2)) H s2 a2 n2 c2 ∧ IsInt ((w2.setCell ⟨H, 0, none⟩ (.int .i64 s2)).setCell ⟨H, 1, none⟩ (.slice a2 n2 c2)) s2 a2 n2 c2 (z' * ((2 ^ N : Nat) : Int)) ∧ Box ((w2.setCell ⟨H, 0, none⟩ (.int .i64 s2)).setCell ⟨H, 1, none⟩ (.slice a2 n2 c2)) (H + 1) 0 none 0 0 ∧ Ext w ((w2.setCell ⟨H, 0, none⟩ (.int .i64 s2)).setCell ⟨H, 1, none⟩ (.slice a2 n2 c2)) from
        ⟨bx.own s2 a2 n2 c2, hI2.keep64 (Keep64.set2 (.i64 l0') (.slice l1') (notW_i64 s2) (.slice a2 n2 c2)), (bR.put (by omega) _).put (by omega) _, (HE.out.trans hx2).put2 (by rw [HH.out]; exact Nat.le_refl _) _ _⟩)
      clear bx bR hI2 hx2 l0 l1 HSh
      go_wp2_with fail
      clear l0' l1' g0 g1
      generalize (w2.setCell ⟨H, 0, none⟩ (.int .i64 s2)).setCell ⟨H, 1, none⟩ (.slice a2 n2 c2) = V2 at *
      go_roundg ((b - N).natAbs)
      case measure => have := Hkk.out; have := Hr.out.1; omega
      case rel => exact ⟨b - N, z' * ((2 ^ N : Nat) : Int), s2, a2, n2, c2, rfl, rfl, HS'.out, HS'.out.fit Hr.out.2.2.2 HfV.out, Hend.out.1, Hend.out.2.1, Hend.out.2.2.1, Hend.out.2.2.2, Hr.out.2.1, Hr.out.2.2.1⟩
    · obtain ⟨N, rfl⟩ : ∃ N : Nat, st = -(N : Int) := ⟨(-st).toNat, by omega⟩
      have HSh := Lib.hid (Shift_down s' a' n' c' z' N wc HZ.out (by omega) (by omega) K HK.out HK1.out HF.out (bru_ext Hbr.out HE.out))
      have HS' := Lib.hid (HS.out.down p1 p4)
      have wk2 : IntKind.i64.wrap (b + (N : Int)) = b + (N : Int) := by rw [IntKind.wrap_i64]; omega
      clear wk
      have Hr := Lib.hid (show (b + (N : Int)).natAbs < b.natAbs ∧ -4611686018427387904 ≤ b + (N : Int) ∧ b + (N : Int) ≤ 4611686018427387904 by omega)
      clear p1 p2 p3 p4 hb h1 h2 e1
      go_wp2_with fail
      refine HSh.out.mono ?_
      rintro e w2 ⟨s2, a2, n2, c2, rfl, hI2, hx2⟩
      have bx := HB.out.ext hx2; have bR := HR.out.ext hx2
      have l0' := bx.c0; have l1' := bx.c1; have g0 := bx.f0; have g1 := bx.f1
      have Hend := Lib.hid (show Box ((w2.setCell ⟨H, 0, none⟩ (.int .i64 s2)).setCell ⟨H, 1, none⟩ (.slice a2 n2 c2)) H s2 a2 n2 c2 ∧ IsInt ((w2.setCell ⟨H, 0, none⟩ (.int .i64 s2)).setCell ⟨H, 1, none⟩ (.slice a2 n2 c2)) s2 a2 n2 c2 (z' / ((2 ^ N : Nat) : Int)) ∧ Box ((w2.setCell ⟨H, 0, none⟩ (.int .i64 s2)).setCell ⟨H, 1, none⟩ (.slice a2 n2 c2)) (H + 1) 0 none 0 0 ∧ Ext w ((w2.setCell ⟨H, 0, none⟩ (.int .i64 s2)).setCell ⟨H, 1, none⟩ (.slice a2 n2 c2)) from
        ⟨bx.own s2 a2 n2 c2, hI2.keep64 (Keep64.set2 (.i64 l0') (.slice l1') (notW_i64 s2) (.slice a2 n2 c2)), (bR.put (by omega) _).put (by omega) _, (HE.out.trans hx2).put2 (by rw [HH.out]; exact Nat.le_refl _) _ _⟩)
      clear bx bR hI2 hx2 l0 l1 HSh
      go_wp2_with fail
      clear l0' l1' g0 g1
      generalize (w2.setCell ⟨H, 0, none⟩ (.int .i64 s2)).setCell ⟨H, 1, none⟩ (.slice a2 n2 c2) = V2 at *
      go_roundg ((b + (N : Int)).natAbs)
      case measure => have := Hkk.out; have := Hr.out.1; omega
      case rel => exact ⟨b + (N : Int), z' / ((2 ^ N : Nat) : Int), s2, a2, n2, c2, rfl, rfl, HS'.out, HF.out.div, Hend.out.1, Hend.out.2.1, Hend.out.2.2.1, Hend.out.2.2.2, Hr.out.2.1, Hr.out.2.2⟩
end Go.Proofs.YtfjnlopbmkimiaaGreatDoor
namespace Go.Proofs.YtfjnlopbmkimiaaGreatDoor
open Go.RowKit

/-- The first j are shifted. -/
def shN (f V : Nat → Int) (j : Nat) : Nat → Int := fun i => if i < j then V i else f i
theorem ShV.of_zero {b V : Int} (h : ShV b 0 V) : V = 0 := by
  rcases h with ⟨_, h⟩ | ⟨_, h⟩
  · rw [← h]; simp
  · rcases Int.mul_eq_zero.1 h.symm with h | h
    · exact h
    · have : 0 < 2 ^ (-b).toNat := Nat.pow_pos (by decide)
      omega
theorem shN_step (f V : Nat → Int) (j i : Nat) : updN (shN f V j) j (V j) i = shN f V (j + 1) i := by
  unfold updN shN
  by_cases e : i = j
  · subst e; simp
  · rw [if_neg e]
    by_cases h : i < j
    · rw [if_pos h, if_pos (by omega)]
    · rw [if_neg h, if_neg (by omega)]
theorem shN_skip (f V : Nat → Int) (j i : Nat) (h : f j = V j) : shN f V j i = shN f V (j + 1) i := by
  unfold shN
  by_cases e : i = j
  · subst e; simp [h]
  · by_cases h : i < j
    · rw [if_pos h, if_pos (by omega)]
    · rw [if_neg h, if_neg (by omega)]
theorem cell_congr {w w' : World} {b o : Nat} (h : w'.heap[b]? = w.heap[b]?) : w'.cell? ⟨b, o, none⟩ = w.cell? ⟨b, o, none⟩ := by
  simp only [World.cell?]
  rw [h]
theorem bru_chg {g : Nat} {w w' : World} (h : Bru w) (c : Chg g w w') (hg : Tryz.lays29_ren.g 1 ≠ g) : Bru w' := fun j hj => by
  have h1 := h j hj
  have hl := World.block_lt_of_cell? _ _ h1
  exact (cell_congr (c.block _ hg hl)).trans h1

set_option maxRecDepth 100000 in
set_option maxHeartbeats 2000000 in
theorem rowShift_any (g m : Nat) (t : TypeId) (f V : Nat → Int) (b0 : Int) (w : World) (h : Nums w g m t f) (hm : 8 ≤ m) (K : Nat) (hK : K ≤ 4194304) (hK1 : 1 ≤ K) (hF : ∀ i, i < 8 → Fit K (f i)) (hFV : ∀ i, i < 8 → Fit K (V i)) (hb1 : -4611686018427387904 ≤ b0) (hb2 : b0 ≤ 4611686018427387904) (hV : ∀ i, i < 8 → ShV b0 (f i) (V i)) (hbr : Bru w) (hgb : Tryz.lays29_ren.g 1 ≠ g) :
    Calls Tryz.prog 88 #[.pointer (some ⟨g, 0, none⟩), .int .i64 b0] w fun e w' => e = .returned (.tuple #[]) ∧ Nums w' g m t (shN f V 8) ∧ Chg g w w' := by
  have Hh := Lib.hid h; have HF := Lib.hid hF; have HFV := Lib.hid hFV; have Hm := Lib.hid hm; have HK := Lib.hid hK; have HK1 := Lib.hid hK1; have HV := Lib.hid hV; have Hbr := Lib.hid hbr; have Hgb := Lib.hid hgb; have Hb1 := Lib.hid hb1; have Hb2 := Lib.hid hb2
  clear h hF hFV hm hK hK1 hV hbr hgb hb1 hb2
  by_cases hb : b0 = 0
  · subst hb
    have e1 : ((0 : Int) == 0) = true := by decide
    go_enter Tryz.func88, Tryz.ntmps88
    go_wp2_with fail
    refine bodyPost_ret (results_none rfl _ _ _) rfl ?_
    exact ⟨rfl, Hh.out.congr fun i _ => by
      unfold shN
      by_cases hi : i < 8
      · rw [if_pos hi]; exact (HV.out i hi).zero
      · rw [if_neg hi], Chg.of_ext (Ext.refl _)⟩
  have e1 : (b0 == 0) = false := by simp [hb]
  clear hb
  go_enter Tryz.func88, Tryz.ntmps88
  go_wp2_with fail
  clear e1
  go_loopg [4, 7] 8 (fun kk s4 s7 wr => ∃ j : Nat, s7 = .int .i64 (j : Int) ∧ j ≤ 8 ∧ 8 - j = kk ∧ Nums wr g m t (shN f V j) ∧ Chg g w wr)
  case atStart => exact ⟨0, rfl, by omega, by omega, Hh.out.congr fun i _ => by simp [shN], Chg.of_ext (Ext.refl _)⟩
  case round =>
    obtain ⟨j, rfl, hj, hjk, hN, hC⟩ := hrel
    by_cases hj8 : j = 8
    · subst hj8
      have Hend := Lib.hid (And.intro hN hC)
      clear hN hC
      go_wp2_with fail
      go_end0
      exact ⟨rfl, Hend.out⟩
    have hlt : j < 8 := by omega
    have q1 : (j : Int) < 8 := by omega
    have q0 : (0 : Int) ≤ (j : Int) := by omega
    obtain ⟨s1, a1, n1, c1, y0, y1, _, _, hI1⟩ := hN.get j (by have := Hm.out; omega)
    have hfj : shN f V j j = f j := by simp [shN]
    rw [hfj] at hI1
    have Hc1 := Lib.hid hI1.cmp3; have HI1 := Lib.hid hI1
    have Hs := Lib.hid (Sign_any s1 (.slice a1 n1 c1))
    have HN := Lib.hid hN; have HC := Lib.hid hC; have Hjk := Lib.hid hjk
    have hgl := hN.lt
    clear hI1 hN hC hjk hj8 hfj
    obtain ⟨wo, rfl⟩ : ∃ wo : World, wo = wr := ⟨_, rfl⟩
    go_wp2_with fail
    refine (Hs.out wo).mono ?_
    rintro e w2 ⟨rfl, hx2⟩
    have HN2 := Lib.hid (HN.out.ext hx2); have HC2 := Lib.hid (HC.out.trans (Chg.of_ext hx2)); have HI2 := Lib.hid (HI1.out.ext hx2)
    have z0 := cellKeep hx2 hgl y0; have z1 := cellKeep hx2 hgl y1
    have hgO := HN2.out.lt
    clear hx2 y0 y1 HN HC HI1 Hs hgl
    rw [Hc1.out]
    clear Hc1
    have wk : IntKind.i64.wrap ((j : Int) + 1) = ((j + 1 : Nat) : Int) := by rw [IntKind.wrap_i64]; omega
    have Hj1 := Lib.hid (show j + 1 ≤ 8 by omega)
    by_cases hz2 : f j = 0
    · have b2 : (cmp3 (f j) 0 != 0) = false := rne_f (cmp3_zero.2 hz2)
      have hvj : f j = V j := by
        have := HV.out j hlt
        rw [hz2] at this
        rw [hz2, this.of_zero]
      have Hcg := Lib.hid (fun i => shN_skip f V j i hvj)
      clear hz2 z0 z1 hvj
      go_wp2_with fail
      go_roundg (8 - (j + 1))
      case measure => have := Hjk.out; have := Hj1.out; omega
      case rel => exact ⟨j + 1, rfl, Hj1.out, rfl, HN2.out.congr fun i _ => Hcg.out i, HC2.out⟩
    have b2 : (cmp3 (f j) 0 != 0) = true := rne_t fun e => hz2 (cmp3_zero.1 e)
    clear hz2
    have HSh := Lib.hid (fun wx (hx : Ext w2 wx) => shift_any s1 a1 n1 c1 (f j) b0 (V j) wx (HI2.out.ext hx) K HK.out HK1.out (HF.out j hlt) (HFV.out j hlt) Hb1.out Hb2.out (HV.out j hlt) (bru_ext (bru_chg Hbr.out HC2.out Hgb.out) hx))
    go_upto_region 5 with fail
    have hd0 : Ext w2 w2.drew := Below.drew (Ext.refl _)
    refine wp_region_K 11 (fun w' => w'.cell? ⟨g, j * 2, none⟩ = some (.int .i64 s1) ∧ w'.cell? ⟨g, j * 2 + 1, none⟩ = some (.slice a1 n1 c1)) (by kernel_rfl) ?_
    show anyK _ _ _ _ _ _ 12 #[false, false, false, false, false, false, false, false, false, false, false, false] _ _
    have hHeld : w2.drew.cell? ⟨g, j * 2, none⟩ = some (.int .i64 s1) ∧ w2.drew.cell? ⟨g, j * 2 + 1, none⟩ = some (.slice a1 n1 c1) := ⟨cellKeep hd0 hgO z0, cellKeep hd0 hgO z1⟩
    refine anyK_take (i := 0) (v := ?_) rfl (by kernel_rfl) (by kernel_rfl) (by kernel_rfl) (N := 12) (by kernel_rfl) (by kernel_rfl) (by kernel_rfl) (fun _ _ _ h => h) (Or.inl ⟨by rfl, ?_⟩) hHeld ?_
    rotate_left 1
    · intro w hSw
      go_simp
      try with_reducible rfl
    show anyK _ _ _ _ _ _ _ _ (Act.put _ (some 17) _) _
    simp only [Act.put, List.setIfInBounds_toArray, List.set_cons_zero, List.set_cons_succ]
    refine anyK_take (i := 1) (v := ?_) rfl (by kernel_rfl) (by kernel_rfl) (by kernel_rfl) (N := 12) (by kernel_rfl) (by kernel_rfl) (by kernel_rfl) (fun _ _ _ h => h) (Or.inl ⟨by rfl, ?_⟩) hHeld ?_
    rotate_left 1
    · intro w hSw
      go_simp
      try with_reducible rfl
    show anyK _ _ _ _ _ _ _ _ (Act.put _ (some 18) _) _
    simp only [Act.put, List.setIfInBounds_toArray, List.set_cons_zero, List.set_cons_succ]
    refine anyK_take (i := 2) (v := ?_) rfl (by kernel_rfl) (by kernel_rfl) (by kernel_rfl) (N := 12) (by kernel_rfl) (by kernel_rfl) (by kernel_rfl) (fun _ _ _ h => h) (Or.inl ⟨by rfl, ?_⟩) hHeld ?_
    rotate_left 1
    · intro w hSw
      go_simp
      try with_reducible rfl
    show anyK _ _ _ _ _ _ _ _ (Act.put _ (some 19) _) _
    simp only [Act.put, List.setIfInBounds_toArray, List.set_cons_zero, List.set_cons_succ]
    refine anyK_take (i := 3) (v := ?_) rfl (by kernel_rfl) (by kernel_rfl) (by kernel_rfl) (N := 12) (by kernel_rfl) (by kernel_rfl) (by kernel_rfl) (fun _ _ _ h => h) (Or.inl ⟨by rfl, ?_⟩) hHeld ?_
    rotate_left 1
    · intro w hSw
      go_simp
      try with_reducible rfl
    show anyK _ _ _ _ _ _ _ _ (Act.put _ (some 20) _) _
    simp only [Act.put, List.setIfInBounds_toArray, List.set_cons_zero, List.set_cons_succ]
    refine anyK_take (i := 4) (v := ?_) rfl (by kernel_rfl) (by kernel_rfl) (by kernel_rfl) (N := 12) (by kernel_rfl) (by kernel_rfl) (by kernel_rfl) (fun _ _ _ h => h) (Or.inl ⟨by rfl, ?_⟩) hHeld ?_
    rotate_left 1
    · intro w hSw
      go_simp
      try with_reducible rfl
    show anyK _ _ _ _ _ _ _ _ (Act.put _ (some 21) _) _
    simp only [Act.put, List.setIfInBounds_toArray, List.set_cons_zero, List.set_cons_succ]
    refine anyK_take (i := 5) (v := ?_) rfl (by kernel_rfl) (by kernel_rfl) (by kernel_rfl) (N := 12) (by kernel_rfl) (by kernel_rfl) (by kernel_rfl) (fun _ _ _ h => h) (Or.inl ⟨by rfl, ?_⟩) hHeld ?_
    rotate_left 1
    · intro w hSw
      go_simp
      try with_reducible rfl
    show anyK _ _ _ _ _ _ _ _ (Act.put _ (some 22) _) _
    simp only [Act.put, List.setIfInBounds_toArray, List.set_cons_zero, List.set_cons_succ]
    refine anyK_take (i := 6) (v := ?_) rfl (by kernel_rfl) (by kernel_rfl) (by kernel_rfl) (N := 12) (by kernel_rfl) (by kernel_rfl) (by kernel_rfl) (fun _ _ _ h => h) (Or.inl ⟨by rfl, ?_⟩) hHeld ?_
    rotate_left 1
    · intro w hSw
      go_simp
      try with_reducible rfl
    show anyK _ _ _ _ _ _ _ _ (Act.put _ (some 23) _) _
    simp only [Act.put, List.setIfInBounds_toArray, List.set_cons_zero, List.set_cons_succ]
    refine anyK_take (i := 7) (v := ?_) rfl (by kernel_rfl) (by kernel_rfl) (by kernel_rfl) (N := 12) (by kernel_rfl) (by kernel_rfl) (by kernel_rfl) (fun _ _ _ h => h) (Or.inl ⟨by rfl, ?_⟩) hHeld ?_
    rotate_left 1
    · intro w hSw
      go_simp
      try with_reducible rfl
    show anyK _ _ _ _ _ _ _ _ (Act.put _ (some 24) _) _
    simp only [Act.put, List.setIfInBounds_toArray, List.set_cons_zero, List.set_cons_succ]
    refine anyK_take (i := 9) (v := ?_) rfl (by kernel_rfl) (by kernel_rfl) (by kernel_rfl) (N := 12) (by kernel_rfl) (by kernel_rfl) (by kernel_rfl) (fun _ _ _ h => h) (Or.inl ⟨by rfl, ?_⟩) hHeld ?_
    rotate_left 1
    · intro w hSw
      go_simp
      try with_reducible rfl
    show anyK _ _ _ _ _ _ _ _ (Act.put _ (some 26) _) _
    simp only [Act.put, List.setIfInBounds_toArray, List.set_cons_zero, List.set_cons_succ]
    clear hHeld
    refine anyK_one (i := 8) (by kernel_rfl) rfl (fun Kk hKk => ?_)
    go_simp
    (go_at_call 127; refine (HSh.out w2.drew hd0).mono ?_; rintro e w3 ⟨s3, a3, n3, c3, rfl, hI3, hx3⟩)
    have he3 := hd0.trans hx3
    go_wp2_with fail
    refine hKk.out _ _ (fun _ => ⟨cellKeep he3 hgO z0, cellKeep he3 hgO z1⟩) ?_
    clear hKk Kk
    simp only [List.setIfInBounds_toArray, List.set_cons_zero, List.set_cons_succ]
    have hHeld : w3.cell? ⟨g, j * 2, none⟩ = some (.int .i64 s1) ∧ w3.cell? ⟨g, j * 2 + 1, none⟩ = some (.slice a1 n1 c1) := ⟨cellKeep he3 hgO z0, cellKeep he3 hgO z1⟩
    refine anyK_take (i := 10) (v := ?_) rfl (by kernel_rfl) (by kernel_rfl) (by kernel_rfl) (N := 12) (by kernel_rfl) (by kernel_rfl) (by kernel_rfl) (fun _ _ _ h => h) (Or.inl ⟨by rfl, ?_⟩) hHeld ?_
    rotate_left 1
    · intro w hSw
      go_simp
      try with_reducible rfl
    show anyK _ _ _ _ _ _ _ _ (Act.put _ (some 27) _) _
    simp only [Act.put, List.setIfInBounds_toArray, List.set_cons_zero, List.set_cons_succ]
    clear hHeld
    have hN3 := HN2.out.ext he3
    obtain ⟨s4, a4, n4, c4, x0, x1, fz0, fz1, _⟩ := hN3.get j (by have := Hm.out; omega)
    have hset := hN3.set j (by have := Hm.out; omega) hI3
    have hkp := hN3.keep j (by have := Hm.out; omega) s3 (.slice a3 n3 c3)
    refine anyK_one (i := 11) (by kernel_rfl) rfl (fun Kk hKk => ?_)
    refine stepK_storeW rfl rfl _ _ rfl g (j * 2) s3 a3 n3 c3 _ _ rfl rfl x0 x1 fz0 fz1 ?_
    refine hKk.out _ _ (fun h => Bool.noConfusion (show true = false from h)) ?_
    clear hKk Kk
    simp only [List.setIfInBounds_toArray, List.set_cons_zero, List.set_cons_succ]
    refine anyK_done (by kernel_rfl) ?_ _
    have hP : Only g w3 ((w3.setCell ⟨g, j * 2, none⟩ (.int .i64 s3)).setCell ⟨g, j * 2 + 1, none⟩ (.slice a3 n3 c3)) := ((Only.refl _ _).setCell _ _).setCell _ _
    have Hend := Lib.hid (show Nums ((w3.setCell ⟨g, j * 2, none⟩ (.int .i64 s3)).setCell ⟨g, j * 2 + 1, none⟩ (.slice a3 n3 c3)) g m t (shN f V (j + 1)) ∧ Chg g w ((w3.setCell ⟨g, j * 2, none⟩ (.int .i64 s3)).setCell ⟨g, j * 2 + 1, none⟩ (.slice a3 n3 c3)) from
      ⟨hset.congr fun i _ => shN_step f V j i, (HC2.out.trans (Chg.of_ext he3)).trans (Chg.of_only hP hkp)⟩)
    clear hset hkp hP hN3 x0 x1 fz0 fz1 z0 z1 HSh HN2 HC2 HI2
    generalize (w3.setCell ⟨g, j * 2, none⟩ (.int .i64 s3)).setCell ⟨g, j * 2 + 1, none⟩ (.slice a3 n3 c3) = V3 at *
    go_wp2_with fail
    go_roundg (8 - (j + 1))
    case measure => have := Hjk.out; have := Hj1.out; omega
    case rel => exact ⟨j + 1, rfl, Hj1.out, rfl, Hend.out⟩
end Go.Proofs.YtfjnlopbmkimiaaGreatDoor
namespace Go.Proofs.YtfjnlopbmkimiaaGreatDoor
open Go.RowKit

/-- A block without words may be written. -/
theorem keep_only {w w' : World} {g : Nat} {cs : Array Value} {t : TypeId} (ho : Only g w w') (h : w.heap[g]? = some (.cells cs t (0, 0))) (hn : ∀ (i : Nat) (x : Int), cs[i]? ≠ some (Value.int .u64 x)) : Keep64 w w' := by
  refine ⟨by rw [ho.size]; exact Nat.le_refl _, fun b o x hx => ?_⟩
  by_cases hb : b = g
  · subst hb
    rw [cell_of_row w b o cs t (0, 0) h] at hx
    exact absurd hx (hn o x)
  · have := ho.block b hb
    simp only [World.cell?] at hx ⊢
    rw [this]; exact hx
end Go.Proofs.YtfjnlopbmkimiaaGreatDoor
namespace Go.Proofs.YtfjnlopbmkimiaaGreatDoor

/-- A row as a sum: its sign turns each eight steps. -/
def ext8 (f : Nat → Int) : Int → Int := fun k => if k % 16 < 8 then f (k % 8).toNat else -f (k % 8).toNat
theorem anti_ext8 (f : Nat → Int) : Anti (ext8 f) := fun k => by
  unfold ext8
  rw [show (k + 8) % 8 = k % 8 by omega]
  by_cases h : k % 16 < 8
  · rw [if_pos h, if_neg (by omega)]
  · rw [if_neg h, if_pos (by omega)]; omega
theorem ext8_at (f : Nat → Int) (j : Int) (h0 : 0 ≤ j) (h1 : j < 8) : ext8 f j = f j.toNat := by
  unfold ext8
  rw [if_pos (by omega), show j % 8 = j by omega]
theorem ext8_congr {f g : Nat → Int} (h : ∀ i, i < 8 → f i = g i) : ext8 f = ext8 g :=
  (anti_ext8 f).ext (anti_ext8 g) fun j h0 h1 => by rw [ext8_at f j h0 h1, ext8_at g j h0 h1, h _ (by omega)]
theorem ext8_of {a : Int → Int} (ha : Anti a) : ext8 (fun i => a i) = a :=
  (anti_ext8 _).ext ha fun j h0 h1 => by rw [ext8_at _ j h0 h1, show ((j.toNat : Nat) : Int) = j by omega]
theorem ext8_zero : ext8 (fun _ => 0) = fun _ => 0 := (anti_ext8 _).ext anti_zero fun j h0 h1 => by rw [ext8_at _ j h0 h1]
theorem ext8_abs {f : Nat → Int} {A : Nat} (h : ∀ i, i < 8 → (f i).natAbs ≤ A) (k : Int) : (ext8 f k).natAbs ≤ A := by
  unfold ext8
  have := h (k % 8).toNat (by omega)
  split <;> omega
theorem ext8_add (f : Nat → Int) (k z : Int) : ext8 (addN f k z) = addR (ext8 f) (mono k z) :=
  (anti_ext8 _).ext ((anti_ext8 f).add (anti_mono k z)) fun j h0 h1 => by
    rw [ext8_at _ j h0 h1, add_mono (ext8 f) k z j h0 h1, ext8_at f j h0 h1]
    unfold addN updN sgK
    by_cases e : j = k % 8
    · rw [if_pos (by omega), if_pos e, ← e]
    · rw [if_neg (by omega), if_neg e]

theorem ext8_mulN (f : Nat → Int) (k z : Int) (g : Nat → Int) : ext8 (mulN f k z g 8) = addR (ext8 f) (trR k fun x => z * ext8 g x) := by
  have hz : Anti fun x => z * ext8 g x := fun x => by show z * _ = _; rw [anti_ext8 g]; exact Int.mul_neg _ _
  rw [← sum_monos hz k]
  have e : ∀ i : Nat, i < 8 → ext8 g (i : Int) = g i := fun i hi => by rw [ext8_at g i (by omega) (by omega)]; rfl
  have c : ∀ i : Int, mono (k + i) (z * ext8 g i) = mono (i + k) (z * ext8 g i) := fun i => by rw [Int.add_comm]
  funext x
  simp only [mulN, ext8_add, addR, sum8, ← c]
  have e0 := e 0 (by omega); have e1 := e 1 (by omega); have e2 := e 2 (by omega); have e3 := e 3 (by omega); have e4 := e 4 (by omega); have e5 := e 5 (by omega); have e6 := e 6 (by omega); have e7 := e 7 (by omega)
  simp only [Int.cast_ofNat_Int] at e0 e1 e2 e3 e4 e5 e6 e7 ⊢
  rw [e0, e1, e2, e3, e4, e5, e6, e7]
  omega

/-- What Mul has made as far as the j-th part of the one. -/
def prN (f g : Nat → Int) : Nat → Nat → Int
  | 0 => fun _ => 0
  | j + 1 => mulN (prN f g j) j (f j) g 8
theorem prN_abs (f g : Nat → Int) (P : Nat) (hP : ∀ i j, i < 8 → j < 8 → (f i * g j).natAbs ≤ P) : ∀ j, j ≤ 8 → ∀ i, i < 8 → (prN f g j i).natAbs ≤ j * (8 * P)
  | 0, _, i, hi => by simp [prN]
  | j + 1, hj, i, hi => by
    have h1 := mulN_abs (prN f g j) j (f j) g (j * (8 * P)) P (prN_abs f g P hP j (by omega)) (fun i hi => hP j i (by omega) hi) 8 (by omega) i hi
    simp only [prN]
    rw [Nat.succ_mul]
    exact h1

/-- What Turn has made as far as the j-th; the ninth number is what is below. -/
def trnN (f : Nat → Int) (k : Int) : Nat → Nat → Int
  | 0 => fun i => if i = 8 then f 8 else 0
  | j + 1 => addN (trnN f k j) (j + k) (f j)
theorem ext8_cut (d : Int) : ext8 (fun i => if i = 8 then d else 0) = fun _ => 0 := by
  rw [← ext8_zero]; exact ext8_congr fun i hi => if_neg (by omega)
theorem ext8_trnN (f : Nat → Int) (k : Int) : ext8 (trnN f k 8) = trR k (ext8 f) := by
  rw [← sum_monos (anti_ext8 f) k]
  have e : ∀ i : Nat, i < 8 → ext8 f (i : Int) = f i := fun i hi => by rw [ext8_at f i (by omega) (by omega)]; rfl
  funext x
  simp only [trnN, ext8_add, addR, sum8, ext8_cut]
  have e0 := e 0 (by omega); have e1 := e 1 (by omega); have e2 := e 2 (by omega); have e3 := e 3 (by omega); have e4 := e 4 (by omega); have e5 := e 5 (by omega); have e6 := e 6 (by omega); have e7 := e 7 (by omega)
  simp only [Int.cast_ofNat_Int] at e0 e1 e2 e3 e4 e5 e6 e7 ⊢
  rw [e0, e1, e2, e3, e4, e5, e6, e7]
  omega
theorem addN_far (f : Nat → Int) (k z : Int) : addN f k z 8 = f 8 := by unfold addN updN; rw [if_neg (by omega)]
theorem trnN_down (f : Nat → Int) (k : Int) : ∀ j, trnN f k j 8 = f 8
  | 0 => by simp [trnN]
  | j + 1 => by simp only [trnN]; rw [addN_far]; exact trnN_down f k j
theorem trnN_abs (f : Nat → Int) (k : Int) (A : Nat) (hA : ∀ i, i < 8 → (f i).natAbs ≤ A) : ∀ j, j ≤ 8 → ∀ i, i < 8 → (trnN f k j i).natAbs ≤ j * A
  | 0, _, i, hi => by simp only [trnN]; rw [if_neg (by omega)]; simp
  | j + 1, hj, i, hi => by
    have := addN_abs (trnN f k j) (j + k) (f j) (j * A) A (trnN_abs f k A hA j (by omega)) (hA j (by omega)) i hi
    simp only [trnN]; rw [Nat.succ_mul]; exact this

/-- What Half has made as far as the j-th. -/
def hfN (f : Nat → Int) : Nat → Nat → Int
  | 0 => fun _ => 0
  | j + 1 => addN (addN (hfN f j) (j + 2) (f j)) (j - 2) (f j)
theorem ext8_hfN (f : Nat → Int) : ext8 (hfN f 8) = addR (trR 2 (ext8 f)) (trR (-2) (ext8 f)) := by
  have h1 := sum_monos (anti_ext8 f) 2
  have h2 := sum_monos (anti_ext8 f) (-2)
  have e : ∀ i : Nat, i < 8 → ext8 f (i : Int) = f i := fun i hi => by rw [ext8_at f i (by omega) (by omega)]; rfl
  rw [← h1, ← h2]
  funext x
  simp only [hfN, ext8_add, addR, sum8, ext8_zero, Int.sub_eq_add_neg]
  have e0 := e 0 (by omega); have e1 := e 1 (by omega); have e2 := e 2 (by omega); have e3 := e 3 (by omega); have e4 := e 4 (by omega); have e5 := e 5 (by omega); have e6 := e 6 (by omega); have e7 := e 7 (by omega)
  simp only [Int.cast_ofNat_Int] at e0 e1 e2 e3 e4 e5 e6 e7 ⊢
  rw [e0, e1, e2, e3, e4, e5, e6, e7]
  omega
theorem hfN_abs (f : Nat → Int) (A : Nat) (hA : ∀ i, i < 8 → (f i).natAbs ≤ A) : ∀ j, j ≤ 8 → ∀ i, i < 8 → (hfN f j i).natAbs ≤ j * (A + A)
  | 0, _, i, hi => by simp [hfN]
  | j + 1, hj, i, hi => by
    have h1 := addN_abs (hfN f j) (j + 2) (f j) (j * (A + A)) A (hfN_abs f A hA j (by omega)) (hA j (by omega))
    have := addN_abs _ (j - 2) (f j) _ A h1 (hA j (by omega)) i hi
    simp only [hfN]; rw [Nat.succ_mul]; omega
end Go.Proofs.YtfjnlopbmkimiaaGreatDoor
namespace Go.Proofs.YtfjnlopbmkimiaaGreatDoor

theorem ext8_scale {f V : Nat → Int} {c : Int} (h : ∀ i, i < 8 → f i = V i * c) (k : Int) : ext8 f k = ext8 V k * c := by
  unfold ext8
  have := h (k % 8).toNat (by omega)
  split
  · exact this
  · rw [this, Int.neg_mul]
theorem low_of {f V : Nat → Int} {d b : Nat} (hb : b ≤ d) (hV : ∀ i, i < 8 → f i = V i * 2 ^ b) (ho : b = d ∨ ∃ i, i < 8 ∧ V i % 2 = 1) : Low ⟨ext8 V, d - b⟩ ∧ EqN ⟨ext8 V, d - b⟩ ⟨ext8 f, d⟩ := by
  constructor
  · rcases ho with h | ⟨i, hi, h⟩
    · exact Or.inl (by show d - b = 0; omega)
    · refine Or.inr ⟨(i : Int), ?_⟩
      show ext8 V i % 2 = 1
      rw [ext8_at V i (by omega) (by omega)]
      exact h
  · intro k
    show ext8 V k * 2 ^ d = ext8 f k * 2 ^ (d - b)
    rw [ext8_scale hV k, Int.mul_assoc, ← Int.pow_add, show b + (d - b) = d by omega]
theorem low_nil {f : Nat → Int} (hf : ∀ i, i < 8 → f i = 0) (d : Nat) : Low ⟨ext8 (fun _ => 0), 0⟩ ∧ EqN ⟨ext8 (fun _ => 0), 0⟩ ⟨ext8 f, d⟩ := by
  refine ⟨Or.inl rfl, fun k => ?_⟩
  have e : ext8 f = fun _ => 0 := by rw [← ext8_zero]; exact ext8_congr hf
  show ext8 (fun _ => 0) k * 2 ^ d = ext8 f k * 2 ^ 0
  rw [e, ext8_zero]; simp

/-- Over the root of two. -/
def nHf (x : Nm) : Nm := ⟨addR (trR 2 x.a) (trR (-2) x.a), x.e + 1⟩
theorem EqN.hf {x x' : Nm} (h : EqN x x') : EqN (nHf x) (nHf x') := fun k => by
  have h1 := h (k - 2); have h2 := h (k - -2)
  simp only [nHf, addR, trR, Int.pow_succ]
  grind
/-- Over a common power. -/
theorem n_add_over {a b : Int → Int} {d e : Nat} (h : e ≤ d) : EqN ⟨addR a (fun k => b k * 2 ^ (d - e)), d⟩ (nAdd ⟨a, d⟩ ⟨b, e⟩) := fun k => by
  obtain ⟨c, rfl⟩ : ∃ c, d = e + c := ⟨d - e, by omega⟩
  rw [show e + c - e = c by omega]
  simp only [nAdd, addR, Int.pow_add]
  grind
theorem nAdd_comm (x y : Nm) : nAdd x y = nAdd y x := by
  unfold nAdd
  rw [Nat.add_comm]
  congr 1
  funext k
  rw [Int.add_comm]
theorem nNeg_tr {x : Nm} (hx : Anti x.a) : nTr 8 x = nNeg x := by
  unfold nTr nNeg
  congr 1
  funext k
  exact hx.back k
theorem Low.tr {x : Nm} (h : Low x) (m : Int) : Low (nTr m x) := by
  rcases h with h | ⟨k, h⟩
  · exact Or.inl h
  · refine Or.inr ⟨k + m, ?_⟩
    show x.a (k + m - m) % 2 = 1
    rw [show k + m - m = k by omega]; exact h
theorem low_rt : Low nRt := Or.inr ⟨2, by decide⟩
end Go.Proofs.YtfjnlopbmkimiaaGreatDoor
namespace Go.Proofs.YtfjnlopbmkimiaaGreatDoor
open Go.RowKit

/-- An operation. -/
structure Gop where
  kind : Int
  k : Int
  ctl : List Int
  q : Int
  bit : Int
  cnd : List Int
/-- A circuit. -/
structure Gci where
  qubits : Int
  bits : Int
  ops : List Gop

def below (n b : Int) : Bool := decide (0 ≤ n) && decide (n < b)
def fitsB (v b : Int) (used : Bool) : Bool := if used then below v b else v == 0
def usesK (k : Int) : Bool := k == 1 || k == 4
def usesQ (k : Int) : Bool := !(k == 1)
def usesC (k : Int) : Bool := k == 2 || k == 3 || k == 4
def usesB (k : Int) : Bool := k == 5

/-- The first fault of controls; 'seen' stand ahead. -/
def ctlCode (q n : Int) : List Int → List Int → Int
  | _, [] => 0
  | seen, c :: r => if below c n = false then 10 else if c = q ∨ c ∈ seen then 12 else ctlCode q n (seen ++ [c]) r
/-- A term names a bit. -/
def termOk (bits t : Int) : Bool := !(t == 0) && decide (-bits ≤ t) && decide (t ≤ bits)
def cndOk (bits : Int) (l : List Int) : Bool := decide (l.length ≤ 24) && l.all (termOk bits)
/-- The first fault of an operation. -/
def opCode (o : Gop) (n bits : Int) : Int :=
  if o.kind < 1 ∨ 6 < o.kind then 8
  else if fitsB o.k 16 (usesK o.kind) = false then 9
  else if fitsB o.q n (usesQ o.kind) = false then 10
  else if 0 < o.ctl.length ∧ usesC o.kind = false then 11
  else if ctlCode o.q n [] o.ctl ≠ 0 then ctlCode o.q n [] o.ctl
  else if fitsB o.bit bits (usesB o.kind) = false then 13
  else if cndOk bits o.cnd = false then 14
  else 0
/-- The first fault of operations, the first of which has number i. -/
def opsCode (n bits : Int) : Nat → List Gop → Int × Int
  | _, [] => (0, 0)
  | i, o :: r => if opCode o n bits ≠ 0 then (opCode o n bits, (i : Int)) else opsCode n bits (i + 1) r
/-- The first fault of a circuit. -/
def chk (c : Gci) : Int × Int :=
  if c.qubits < 1 ∨ 12 < c.qubits then (6, 0)
  else if c.bits < 0 ∨ 12 < c.bits then (7, 0)
  else if 4096 < c.ops.length then (2, 0)
  else opsCode c.qubits c.bits 0 c.ops

theorem ctlCode_step (q n : Int) (l : List Int) (i : Nat) (h : i < l.length) : ctlCode q n (l.take i) (l.drop i) = if below (l.getD i 0) n = false then 10 else if l.getD i 0 = q ∨ l.getD i 0 ∈ l.take i then 12 else ctlCode q n (l.take (i + 1)) (l.drop (i + 1)) := by
  have h1 : l.drop i = l[i] :: l.drop (i + 1) := List.drop_eq_getElem_cons h
  have h2 : l.take (i + 1) = l.take i ++ [l[i]] := by rw [List.take_add_one, List.getElem?_eq_getElem h]; rfl
  have h3 : l.getD i 0 = l[i] := by rw [List.getD_eq_getElem?_getD, List.getElem?_eq_getElem h]; rfl
  rw [h1, ctlCode, ← h2, h3]
theorem ctlCode_end (q n : Int) (l : List Int) (i : Nat) (h : l.length ≤ i) : ctlCode q n (l.take i) (l.drop i) = 0 := by
  rw [List.drop_eq_nil_of_le h]; rfl
theorem all_step (p : Int → Bool) (l : List Int) (i : Nat) (h : i < l.length) : (l.drop i).all p = (p (l.getD i 0) && (l.drop (i + 1)).all p) := by
  have h1 : l.drop i = l[i] :: l.drop (i + 1) := List.drop_eq_getElem_cons h
  have h3 : l.getD i 0 = l[i] := by rw [List.getD_eq_getElem?_getD, List.getElem?_eq_getElem h]; rfl
  rw [h1, List.all_cons, h3]

/-- The ints l lie at ao. -/
def IntsAt (w : World) (ao : Option Addr) (n : Nat) (l : List Int) : Prop :=
  l.length = n ∧ (n = 0 ∨ ∃ b o, ao = some ⟨b, o, none⟩ ∧ b < w.heap.size ∧ ∀ t, t < n → w.cell? ⟨b, o + t, none⟩ = some (.int .i64 (l.getD t 0)))
theorem IntsAt.ext {w w' : World} {ao : Option Addr} {n : Nat} {l : List Int} (h : IntsAt w ao n l) (k : Ext w w') : IntsAt w' ao n l := by
  refine ⟨h.1, ?_⟩
  rcases h.2 with h0 | ⟨b, o, e, hb, hc⟩
  · exact Or.inl h0
  · exact Or.inr ⟨b, o, e, Nat.lt_of_lt_of_le hb k.size, fun t ht => (k.cell (p := ⟨b, o + t, none⟩) hb).trans (hc t ht)⟩
theorem IntsAt.take {w : World} {ao : Option Addr} {n : Nat} {l : List Int} (h : IntsAt w ao n l) (m : Nat) (hm : m ≤ n) : IntsAt w ao m (l.take m) := by
  refine ⟨by rw [List.length_take, h.1]; omega, ?_⟩
  rcases h.2 with h0 | ⟨b, o, e, hb, hc⟩
  · exact Or.inl (by omega)
  · refine Or.inr ⟨b, o, e, hb, fun t ht => ?_⟩
    rw [hc t (by omega), List.getD_eq_getElem?_getD, List.getD_eq_getElem?_getD, List.getElem?_take, if_pos ht]
theorem IntsAt.at {w : World} {ao : Option Addr} {n : Nat} {l : List Int} (h : IntsAt w ao n l) (hn : 0 < n) : ∃ b o, ao = some ⟨b, o, none⟩ ∧ b < w.heap.size ∧ ∀ t, t < n → w.cell? ⟨b, o + t, none⟩ = some (.int .i64 (l.getD t 0)) := by
  rcases h.2 with h0 | h
  · omega
  · exact h

set_option maxHeartbeats 400000 in
theorem isBelow_any (n b : Int) (w : World) : Calls Tryz.prog 46 #[.int .i64 n, .int .i64 b] w fun e w' => e = .returned (.bool (below n b)) ∧ w' = w := by
  by_cases h0 : 0 ≤ n
  · by_cases h1 : n < b
    · have e : below n b = true := by simp [below, h0, h1]
      rw [e]
      go_enter Tryz.func46, Tryz.ntmps46
      go_wp2
      go_ret
      exact ⟨rfl, rfl⟩
    · have e : below n b = false := by simp [below, h1]
      rw [e]
      have h1' : decide (n < b) = false := by simp [h1]
      go_enter Tryz.func46, Tryz.ntmps46
      go_wp2
      go_ret
      exact ⟨rfl, rfl⟩
  · have e : below n b = false := by simp [below, h0]
    rw [e]
    have h0' : decide (0 ≤ n) = false := by simp [h0]
    go_enter Tryz.func46, Tryz.ntmps46
    go_wp2
    go_ret
    exact ⟨rfl, rfl⟩

set_option maxHeartbeats 400000 in
theorem fits_any (v b : Int) (u : Bool) (w : World) : Calls Tryz.prog 111 #[.int .i64 v, .int .i64 b, .bool u] w fun e w' => e = .returned (.bool (fitsB v b u)) ∧ w' = w := by
  cases u
  · go_enter Tryz.func111, Tryz.ntmps111
    go_wp2
    go_ret
    exact ⟨rfl, rfl⟩
  · go_enter Tryz.func111, Tryz.ntmps111
    go_wp2_with fail
    refine (isBelow_any _ _ _).mono ?_
    rintro e w1 ⟨rfl, rfl⟩
    go_wp2_with fail
    go_ret
    exact ⟨rfl, rfl⟩

end Go.Proofs.YtfjnlopbmkimiaaGreatDoor
namespace Go.Proofs.YtfjnlopbmkimiaaGreatDoor

theorem low_ex : ∀ (e : Nat) (a : Int → Int), ∃ y : Nm, Low y ∧ EqN y ⟨a, e⟩ ∧ (Anti a → Anti y.a)
  | 0, a => ⟨⟨a, 0⟩, Or.inl rfl, EqN.refl _, id⟩
  | e + 1, a => by
    by_cases h : ∃ k, a k % 2 = 1
    · exact ⟨⟨a, e + 1⟩, Or.inr h, EqN.refl _, id⟩
    · have hev : ∀ k, a k % 2 = 0 := fun k => by
        have : ¬ a k % 2 = 1 := fun g => h ⟨k, g⟩
        omega
      obtain ⟨y, h1, h2, h3⟩ := low_ex e (fun k => a k / 2)
      refine ⟨y, h1, h2.trans (fun k => ?_), fun ha => h3 fun k => ?_⟩
      · have := hev k
        show a k / 2 * 2 ^ (e + 1) = a k * 2 ^ e
        rw [Int.pow_succ, Int.mul_comm (2 ^ e) 2, ← Int.mul_assoc]
        congr 1
        omega
      · have h4 := ha k; have h5 := hev k
        show a (k + 8) / 2 = -(a k / 2)
        omega
/-- The lowest form. -/
noncomputable def lw (x : Nm) : Nm := Classical.choose (low_ex x.e x.a)
theorem lw_low (x : Nm) : Low (lw x) := (Classical.choose_spec (low_ex x.e x.a)).1
theorem lw_eq (x : Nm) : EqN (lw x) x := (Classical.choose_spec (low_ex x.e x.a)).2.1
theorem lw_anti {x : Nm} (h : Anti x.a) : Anti (lw x).a := (Classical.choose_spec (low_ex x.e x.a)).2.2 h
theorem lw_one {x z : Nm} (hz : Low z) (h : EqN z x) : z = lw x := low_one hz (lw_low x) (h.trans (lw_eq x).symm)
theorem lw_congr {x y : Nm} (h : EqN x y) : lw x = lw y := lw_one (lw_low x) ((lw_eq x).trans h)
theorem lw_self {x : Nm} (h : Low x) : lw x = x := (lw_one h (EqN.refl x)).symm

/-- How great: over 2^N, below 2^(2N + 1). -/
def Bd (N : Nat) (x : Nm) : Prop := x.e ≤ N ∧ ∀ k, (x.a k).natAbs * 2 ^ (N - x.e) < 2 ^ (2 * N + 1)
theorem Bd.abs {N : Nat} {x : Nm} (h : Bd N x) (k : Int) : (x.a k).natAbs < 2 ^ (2 * N + 1) :=
  Nat.lt_of_le_of_lt (Nat.le_mul_of_pos_right _ (Nat.pow_pos (by decide))) (h.2 k)
theorem Bd.rep {N : Nat} {x : Nm} (h : Bd N x) : EqN x ⟨fun k => x.a k * 2 ^ (N - x.e), N⟩ := fun k => by
  show x.a k * 2 ^ N = x.a k * 2 ^ (N - x.e) * 2 ^ x.e
  rw [Int.mul_assoc, ← Int.pow_add, Nat.sub_add_cancel h.1]
theorem Bd.of_rep {N : Nat} {x : Nm} {A : Int → Int} (hl : Low x) (h : EqN x ⟨A, N⟩) (hA : ∀ k, (A k).natAbs < 2 ^ (2 * N + 1)) : Bd N x := by
  have he : x.e ≤ N := low_le hl h
  refine ⟨he, fun k => ?_⟩
  have h1 : x.a k * 2 ^ N = A k * 2 ^ x.e := h k
  have h2 : x.a k * 2 ^ (N - x.e) = A k := by
    have h3 : x.a k * 2 ^ (N - x.e) * 2 ^ x.e = A k * 2 ^ x.e := by rw [Int.mul_assoc, ← Int.pow_add, Nat.sub_add_cancel he, h1]
    exact Int.eq_of_mul_eq_mul_right (two_ne _) h3
  have h4 : (x.a k).natAbs * 2 ^ (N - x.e) = (A k).natAbs := by
    rw [← h2, Int.natAbs_mul, Int.natAbs_pow]; rfl
  rw [h4]; exact hA k
theorem Bd.up {N : Nat} {x : Nm} (h : Bd N x) : Bd (N + 1) x := by
  refine ⟨Nat.le_succ_of_le h.1, fun k => ?_⟩
  have h1 := h.2 k
  rw [show N + 1 - x.e = N - x.e + 1 by have := h.1; omega, Nat.pow_succ, ← Nat.mul_assoc, show 2 * (N + 1) + 1 = 2 * N + 1 + 1 + 1 by omega, Nat.pow_succ, Nat.pow_succ]
  omega
theorem Bd.le {N M : Nat} {x : Nm} (h : Bd N x) (hm : N ≤ M) : Bd M x := by
  obtain ⟨d, rfl⟩ : ∃ d, M = N + d := ⟨M - N, by omega⟩
  clear hm
  induction d with
  | zero => exact h
  | succ d ih => exact ih.up
theorem Bd.tr {N : Nat} {x : Nm} (h : Bd N x) (m : Int) : Bd N (nTr m x) := ⟨h.1, fun k => h.2 (k - m)⟩
theorem Bd.neg {N : Nat} {x : Nm} (h : Bd N x) : Bd N (nNeg x) := ⟨h.1, fun k => by show (-(x.a k)).natAbs * _ < _; rw [Int.natAbs_neg]; exact h.2 k⟩
theorem Bd.zero (N : Nat) : Bd N ⟨fun _ => 0, 0⟩ := ⟨Nat.zero_le _, fun k => by simp; exact Nat.pow_pos (by decide)⟩
theorem Anti.neg' {x : Nm} (h : Anti x.a) : Anti (nNeg x).a := h.neg
theorem Low.neg {x : Nm} (h : Low x) : Low (nNeg x) := by
  rcases h with h | ⟨k, hk⟩
  · exact Or.inl h
  · exact Or.inr ⟨k, by show (-(x.a k)) % 2 = 1; omega⟩
theorem anti_add {x y : Nm} (hx : Anti x.a) (hy : Anti y.a) : Anti (nAdd x y).a := fun k => by
  show x.a (k + 8) * 2 ^ y.e + y.a (k + 8) * 2 ^ x.e = -(x.a k * 2 ^ y.e + y.a k * 2 ^ x.e)
  rw [hx, hy, Int.neg_mul, Int.neg_mul]; omega
theorem anti_hf {x : Nm} (hx : Anti x.a) : Anti (nHf x).a := (hx.tr 2).add (hx.tr (-2))
/-- A sum over one power. -/
theorem add_rep {x y : Nm} {A B : Int → Int} {N : Nat} (h : EqN x ⟨A, N⟩) (g : EqN y ⟨B, N⟩) : EqN (nAdd x y) ⟨addR A B, N⟩ :=
  (EqN.add h g).trans (fun k => by simp only [nAdd, addR, Int.pow_add]; grind)
/-- Behind a Hadamard gate. -/
theorem Bd.hf {N : Nat} {x y : Nm} (hx : Bd N x) (hy : Bd N y) : Bd (N + 1) (lw (nHf (nAdd x y))) := by
  have h1 := add_rep hx.rep hy.rep
  have h2 : EqN (nHf (nAdd x y)) ⟨addR (trR 2 (addR (fun k => x.a k * 2 ^ (N - x.e)) (fun k => y.a k * 2 ^ (N - y.e)))) (trR (-2) (addR (fun k => x.a k * 2 ^ (N - x.e)) (fun k => y.a k * 2 ^ (N - y.e)))), N + 1⟩ := EqN.hf h1
  refine Bd.of_rep (lw_low _) ((lw_eq _).trans h2) fun k => ?_
  have b : ∀ j : Int, (x.a j * 2 ^ (N - x.e) + y.a j * 2 ^ (N - y.e)).natAbs < 2 * 2 ^ (2 * N + 1) := fun j => by
    have c1 := hx.2 j; have c2 := hy.2 j
    have c3 : (x.a j * 2 ^ (N - x.e)).natAbs = (x.a j).natAbs * 2 ^ (N - x.e) := by rw [Int.natAbs_mul, Int.natAbs_pow]; rfl
    have c4 : (y.a j * 2 ^ (N - y.e)).natAbs = (y.a j).natAbs * 2 ^ (N - y.e) := by rw [Int.natAbs_mul, Int.natAbs_pow]; rfl
    omega
  have b1 := b (k - 2); have b2 := b (k - -2)
  show (x.a (k - 2) * 2 ^ (N - x.e) + y.a (k - 2) * 2 ^ (N - y.e) + (x.a (k - -2) * 2 ^ (N - x.e) + y.a (k - -2) * 2 ^ (N - y.e))).natAbs < 2 ^ (2 * (N + 1) + 1)
  rw [show 2 * (N + 1) + 1 = 2 * N + 1 + 1 + 1 by omega, Nat.pow_succ, Nat.pow_succ]
  omega

/-- Nought. -/
def nZ : Nm := ⟨fun _ => 0, 0⟩
theorem low_nZ : Low nZ := Or.inl rfl
theorem anti_nZ : Anti nZ.a := anti_zero
theorem zero_is {x : Nm} (h : Low x) (hz : ∀ k, x.a k = 0) : x = nZ := low_one h low_nZ fun k => by
  show x.a k * 2 ^ 0 = 0 * 2 ^ x.e
  rw [hz]; simp
theorem hf_add (x y : Nm) : EqN (nAdd (nHf x) (nHf y)) (nHf (nAdd x y)) := fun k => by
  simp only [nAdd, nHf, addR, trR, Int.pow_add]
  grind
theorem hf_neg (x : Nm) : nHf (nNeg x) = nNeg (nHf x) := by
  unfold nHf nNeg
  congr 1
  funext k
  simp only [addR, trR, negR]
  omega

/-- An amplitude of a state behind N operations. -/
structure Amp (N : Nat) (x : Nm) : Prop where
  low : Low x
  anti : Anti x.a
  bd : Bd N x
theorem Amp.zero (N : Nat) : Amp N nZ := ⟨low_nZ, anti_nZ, Bd.zero N⟩
theorem Amp.le {N M : Nat} {x : Nm} (h : Amp N x) (hm : N ≤ M) : Amp M x := ⟨h.low, h.anti, h.bd.le hm⟩
theorem Amp.tr {N : Nat} {x : Nm} (h : Amp N x) (m : Int) : Amp N (nTr m x) := ⟨h.low.tr m, h.anti.tr m, h.bd.tr m⟩
theorem Amp.neg {N : Nat} {x : Nm} (h : Amp N x) : Amp N (nNeg x) := ⟨h.low.neg, h.anti.neg', h.bd.neg⟩
theorem Amp.hf {N : Nat} {x y : Nm} (hx : Amp N x) (hy : Amp N y) : Amp (N + 1) (lw (nHf (nAdd x y))) := ⟨lw_low _, lw_anti (anti_hf (anti_add hx.anti hy.anti)), hx.bd.hf hy.bd⟩

/-- Is qubit q of basis state x 1? -/
def bt (x : Nat) (q : Int) : Bool := x.testBit q.toNat
def fl (x : Nat) (q : Int) : Nat := x ^^^ 2 ^ q.toNat
/-- Are all these? -/
def ons (x : Nat) (l : List Int) : Bool := l.all (bt x)
/-- A gate's work. -/
noncomputable def gt (o : Gop) (s : Nat → Nm) (x : Nat) : Nm :=
  if ons x o.ctl then
    if o.kind = 1 then nTr o.k (s x)
    else if o.kind = 4 then (if bt x o.q then nTr o.k (s x) else s x)
    else if o.kind = 2 then s (fl x o.q)
    else lw (nHf (nAdd (s (fl x o.q)) (if bt x o.q then nNeg (s x) else s x)))
  else s x
/-- What an outcome leaves. -/
def oc (q b : Int) (s : Nat → Nm) (x : Nat) : Nm := if (if bt x q then (1 : Int) else 0) = b then s x else nZ
theorem gt_amp {N : Nat} {o : Gop} {s : Nat → Nm} (h : ∀ x, Amp N (s x)) (x : Nat) : Amp (N + 1) (gt o s x) := by
  unfold gt
  split
  · split
    · exact ((h x).tr _).le (Nat.le_succ _)
    · split
      · split
        · exact ((h x).tr _).le (Nat.le_succ _)
        · exact (h x).le (Nat.le_succ _)
      · split
        · exact (h _).le (Nat.le_succ _)
        · refine (h _).hf ?_
          split
          · exact (h x).neg
          · exact h x
  · exact (h x).le (Nat.le_succ _)
theorem oc_amp {N : Nat} {q b : Int} {s : Nat → Nm} (h : ∀ x, Amp N (s x)) (x : Nat) : Amp N (oc q b s x) := by
  unfold oc
  by_cases g : (if bt x q then (1 : Int) else 0) = b
  · rw [if_pos g]; exact h x
  · rw [if_neg g]; exact Amp.zero N
theorem fl_fl (x : Nat) (q : Int) : fl (fl x q) q = x := by unfold fl; rw [Nat.xor_assoc, Nat.xor_self, Nat.xor_zero]
theorem bt_fl (x : Nat) (q : Int) : bt (fl x q) q = !bt x q := by
  unfold bt fl
  rw [Nat.testBit_xor, Nat.testBit_two_pow_self]
  simp
theorem bt_fl_ne {x : Nat} {q c : Int} (h : c.toNat ≠ q.toNat) : bt (fl x q) c = bt x c := by
  unfold bt fl
  rw [Nat.testBit_xor, Nat.testBit_two_pow_of_ne (fun e => h e.symm)]
  simp
theorem fl_lt {x n : Nat} {q : Int} (hx : x < 2 ^ n) (hq : q.toNat < n) : fl x q < 2 ^ n := Nat.xor_lt_two_pow hx (Nat.pow_lt_pow_right (by decide) hq)
end Go.Proofs.YtfjnlopbmkimiaaGreatDoor
namespace Go.Proofs.YtfjnlopbmkimiaaGreatDoor
open Go.RowKit

theorem setRow_only (w : World) (g : Nat) (cs : Array Value) : Only g w (w.setRow g cs) where
  os := rfl
  tape := rfl
  output := rfl
  size := by simp
  block := fun k hk => setRow_other w g k cs hk

/-- These cells are m numbers side by side: f 0, f 1, .. -/
def CellsA (w : World) (cs : Array Value) (m : Nat) (f : Nat → Int) : Prop := cs.size = 2 * m ∧
  ∀ i, i < m → ∃ (s : Int) (a : Option Addr) (n c : Nat), cs[i * 2]? = some (.int .i64 s) ∧ cs[i * 2 + 1]? = some (.slice a n c) ∧ IsInt w s a n c (f i)
theorem CellsA.ext {w w' : World} {cs : Array Value} {m : Nat} {f : Nat → Int} (h : CellsA w cs m f) (k : Ext w w') : CellsA w' cs m f :=
  ⟨h.1, fun i hi => by obtain ⟨s, a, n, c, q1, q2, q3⟩ := h.2 i hi; exact ⟨s, a, n, c, q1, q2, q3.ext k⟩⟩
theorem CellsA.keep64 {w w' : World} {cs : Array Value} {m : Nat} {f : Nat → Int} (h : CellsA w cs m f) (k : Keep64 w w') : CellsA w' cs m f :=
  ⟨h.1, fun i hi => by obtain ⟨s, a, n, c, q1, q2, q3⟩ := h.2 i hi; exact ⟨s, a, n, c, q1, q2, q3.keep64 k⟩⟩
theorem CellsA.congr {w : World} {cs : Array Value} {m : Nat} {f f' : Nat → Int} (h : CellsA w cs m f) (e : ∀ i, i < m → f i = f' i) : CellsA w cs m f' :=
  ⟨h.1, fun i hi => by obtain ⟨s, a, n, c, q1, q2, q3⟩ := h.2 i hi; exact ⟨s, a, n, c, q1, q2, q3.cast (e i hi)⟩⟩
theorem CellsA.at {w : World} {cs : Array Value} {m : Nat} {f : Nat → Int} (h : CellsA w cs m f) (j : Nat) (hj : j < cs.size) : (∃ s : Int, cs[j]? = some (.int .i64 s)) ∨ ∃ (a : Option Addr) (n c : Nat), cs[j]? = some (.slice a n c) := by
  have h1 := h.1
  obtain ⟨s, a, n, c, q1, q2, _⟩ := h.2 (j / 2) (by omega)
  by_cases e : j % 2 = 0
  · rw [show j / 2 * 2 = j by omega] at q1; exact Or.inl ⟨s, q1⟩
  · rw [show j / 2 * 2 + 1 = j by omega] at q2; exact Or.inr ⟨a, n, c, q2⟩
theorem CellsA.one {w : World} {cs : Array Value} {m : Nat} {f : Nat → Int} (h : CellsA w cs m f) : cs.all (·.oneCell') = true := by
  rw [Array.all_eq_true]
  intro j hj
  rcases h.at j hj with ⟨s, e⟩ | ⟨a, n, c, e⟩
  · rw [Array.getElem?_eq_getElem hj] at e; rw [Option.some.inj e]; rfl
  · rw [Array.getElem?_eq_getElem hj] at e; rw [Option.some.inj e]; rfl
theorem CellsA.words {w : World} {cs : Array Value} {m : Nat} {f : Nat → Int} (h : CellsA w cs m f) (i : Nat) (x : Int) : cs[i]? ≠ some (Value.int .u64 x) := by
  by_cases hi : i < cs.size
  · rcases h.at i hi with ⟨s, e⟩ | ⟨a, n, c, e⟩ <;> (rw [e]; intro h; cases h)
  · rw [Array.getElem?_eq_none (by omega)]; intro h; cases h
theorem CellsA.nums {w : World} {g : Nat} {t : TypeId} {cs : Array Value} {m : Nat} {f : Nat → Int} (h : CellsA w cs m f) (hr : w.heap[g]? = some (.cells cs t (0, 0))) : Nums w g m t f := ⟨cs, hr, h.1, h.2⟩
theorem Nums.cells {w : World} {g : Nat} {t : TypeId} {m : Nat} {f : Nat → Int} (h : Nums w g m t f) : ∃ cs, w.heap[g]? = some (.cells cs t (0, 0)) ∧ CellsA w cs m f := by
  obtain ⟨cs, h1, h2, h3⟩ := h; exact ⟨cs, h1, h2, h3⟩
theorem CellsA.box {w : World} {cs : Array Value} {m : Nat} {f : Nat → Int} (h : CellsA w cs m f) (t : TypeId) : Nums (w.alloc (.cells cs t)) w.heap.size m t f := (h.ext (Ext.alloc _ _)).nums (heap_alloc_new w _)
/-- Written over. -/
theorem CellsA.setRow {w : World} {g : Nat} {t : TypeId} {cs : Array Value} {m m0 : Nat} {f f0 : Nat → Int} (h : CellsA w cs m f) (h0 : Nums w g m0 t f0) : Nums (w.setRow g cs) g m t f ∧ Chg g w (w.setRow g cs) ∧ (w.setRow g cs).heap[g]? = some (.cells cs t (0, 0)) := by
  obtain ⟨c0, hr, hc⟩ := h0.cells
  have hk := keep_only (setRow_only w g cs) hr (CellsA.words hc)
  have hrow := setRow_heap w g _ cs t (0, 0) hr
  exact ⟨(h.keep64 hk).nums hrow, Chg.of_only (setRow_only w g _) hk, hrow⟩
/-- The first eight of them: a row. -/
theorem CellsA.row8 {w : World} {cs : Array Value} {m : Nat} {f : Nat → Int} (h : CellsA w cs m f) (hm : 8 ≤ m) : CellsA w (cs.toList.take 16).toArray 8 f := by
  have h1 := h.1
  refine ⟨by simp; omega, fun i hi => ?_⟩
  obtain ⟨s, a, n, c, q1, q2, q3⟩ := h.2 i (by omega)
  refine ⟨s, a, n, c, ?_, ?_, q3⟩
  · simp only [List.getElem?_toArray, List.getElem?_take]; rw [if_pos (by omega)]; simpa using q1
  · simp only [List.getElem?_toArray, List.getElem?_take]; rw [if_pos (by omega)]; simpa using q2
theorem range8 {w : World} {g : Nat} {t : TypeId} {cs : Array Value} (hr : w.heap[g]? = some (.cells cs t (0, 0))) : w.rangeAt g 0 (cs.toList.take 16) := by
  intro j v hv
  rw [cell_of_row w g _ cs t (0, 0) hr, Nat.zero_add]
  rw [List.getElem?_take] at hv
  split at hv
  · simpa using hv
  · cases hv
/-- A row of sixteen cells, and two behind it. -/
theorem CellsA.snoc {w : World} {cs : Array Value} {f : Nat → Int} {s : Int} {a : Option Addr} {n c : Nat} {z : Int} (h : CellsA w cs 8 f) (hz : IsInt w s a n c z) : CellsA w (cs ++ #[.int .i64 s, .slice a n c]) 9 (fun i => if i = 8 then z else f i) := by
  have h1 := h.1
  refine ⟨by simp; omega, fun i hi => ?_⟩
  by_cases e : i = 8
  · subst e
    refine ⟨s, a, n, c, ?_, ?_, by show IsInt w s a n c (if 8 = 8 then z else f 8); rw [if_pos rfl]; exact hz⟩
    · rw [Array.getElem?_append_right (by omega), show 8 * 2 - cs.size = 0 by omega]; rfl
    · rw [Array.getElem?_append_right (by omega), show 8 * 2 + 1 - cs.size = 1 by omega]; rfl
  · obtain ⟨s', a', n', c', q1, q2, q3⟩ := h.2 i (by omega)
    refine ⟨s', a', n', c', ?_, ?_, by show IsInt w s' a' n' c' (if i = 8 then z else f i); rw [if_neg e]; exact q3⟩
    · rw [Array.getElem?_append_left (by omega)]; exact q1
    · rw [Array.getElem?_append_left (by omega)]; exact q2
theorem isInt_zero (w : World) : IsInt w 0 none 0 0 0 := Or.inl ⟨rfl, rfl, rfl, rfl, by decide, by decide⟩
abbrev zero9 : Array Value := #[.int .i64 0, .slice none 0 0, .int .i64 0, .slice none 0 0, .int .i64 0, .slice none 0 0, .int .i64 0, .slice none 0 0, .int .i64 0, .slice none 0 0, .int .i64 0, .slice none 0 0, .int .i64 0, .slice none 0 0, .int .i64 0, .slice none 0 0, .int .i64 0, .slice none 0 0]
abbrev zero8 : Array Value := #[.int .i64 0, .slice none 0 0, .int .i64 0, .slice none 0 0, .int .i64 0, .slice none 0 0, .int .i64 0, .slice none 0 0, .int .i64 0, .slice none 0 0, .int .i64 0, .slice none 0 0, .int .i64 0, .slice none 0 0, .int .i64 0, .slice none 0 0]
theorem cells_zero9 (w : World) : CellsA w zero9 9 (fun _ => 0) := by
  refine ⟨rfl, fun i hi => ⟨0, none, 0, 0, ?_, ?_, isInt_zero w⟩⟩
  all_goals
    have e : i = 0 ∨ i = 1 ∨ i = 2 ∨ i = 3 ∨ i = 4 ∨ i = 5 ∨ i = 6 ∨ i = 7 ∨ i = 8 := by omega
    rcases e with rfl | rfl | rfl | rfl | rfl | rfl | rfl | rfl | rfl <;> rfl
theorem cells_zero8 (w : World) : CellsA w zero8 8 (fun _ => 0) := by
  refine ⟨rfl, fun i hi => ⟨0, none, 0, 0, ?_, ?_, isInt_zero w⟩⟩
  all_goals
    have e : i = 0 ∨ i = 1 ∨ i = 2 ∨ i = 3 ∨ i = 4 ∨ i = 5 ∨ i = 6 ∨ i = 7 := by omega
    rcases e with rfl | rfl | rfl | rfl | rfl | rfl | rfl | rfl <;> rfl
theorem rnum_info : (Tryz.prog.info? 78).map (·.size) = some 18 := by kernel_rfl
theorem rrow_info : (Tryz.prog.info? 76).map (·.size) = some 16 := by kernel_rfl

/-- The cells of a number of circuits that stands for x: kept as it must be; its multiples are below 2^P, its power is at most E. -/
def nmF (x : Nm) : Nat → Int := fun i => if i = 8 then (x.e : Int) else x.a i
structure NmA (w : World) (cs : Array Value) (x : Nm) (P E : Nat) : Prop where
  anti : Anti x.a
  low : Low x
  abs : ∀ k, (x.a k).natAbs < 2 ^ P
  down : x.e ≤ E
  val : CellsA w cs 9 (nmF x)
theorem NmA.ext {w w' : World} {cs : Array Value} {x : Nm} {P E : Nat} (h : NmA w cs x P E) (k : Ext w w') : NmA w' cs x P E := ⟨h.anti, h.low, h.abs, h.down, h.val.ext k⟩
theorem NmA.keep64 {w w' : World} {cs : Array Value} {x : Nm} {P E : Nat} (h : NmA w cs x P E) (k : Keep64 w w') : NmA w' cs x P E := ⟨h.anti, h.low, h.abs, h.down, h.val.keep64 k⟩
theorem ext8_nmF {x : Nm} (h : Anti x.a) : ext8 (nmF x) = x.a := by
  rw [← ext8_of h]
  exact ext8_congr fun i hi => if_neg (by omega)
theorem nmF_abs {x : Nm} {P : Nat} (h : ∀ k, (x.a k).natAbs < 2 ^ P) : ∀ i, i < 8 → (nmF x i).natAbs < 2 ^ P := fun i hi => by
  unfold nmF; rw [if_neg (by omega)]; exact h _
end Go.Proofs.YtfjnlopbmkimiaaGreatDoor
namespace Go.Proofs.YtfjnlopbmkimiaaGreatDoor
open Go.RowKit

theorem ext_alloc (w : World) (o : Obj) : Ext w (w.alloc o) := (Below.refl _ _).alloc (Nat.le_refl _) o

end Go.Proofs.YtfjnlopbmkimiaaGreatDoor
namespace Go.Proofs.YtfjnlopbmkimiaaGreatDoor
open Go.RowKit

theorem int_info : (Tryz.prog.info? 3).map (fun i => (i.zero, i.size, i.bytes)) = some (some (.int .i64 0), 1, 8) := by kernel_rfl

end Go.Proofs.YtfjnlopbmkimiaaGreatDoor
