/-
  Shift.
-/
import Derived.Test.YtciglkaekecddaaDoorMGcD
import Derived.Test.YtciglkaekecddaaDoorMTxP

namespace Go.Proofs.YtciglkaekecddaaDoor
open Go.RowKit

theorem two_cast (k : Nat) : ((2 ^ k : Nat) : Int) = (2 : Int) ^ k := by simp

theorem zfi_new (w : World) (o1 o2 : Obj) : ((w.alloc o1).alloc o2 |>.alloc (.cells #[.int .i64 0, .int .i64 0] 26)).heap[w.heap.size + 1 + 1]? = some (.cells #[.int .i64 0, .int .i64 0] 26 (0, 0)) := by
  have h := heap_alloc_new ((w.alloc o1).alloc o2) (.cells #[.int .i64 0, .int .i64 0] 26)
  rw [show ((w.alloc o1).alloc o2).heap.size = w.heap.size + 1 + 1 from by simp] at h
  exact h

set_option maxHeartbeats 2000000 in
set_option maxRecDepth 100000 in
/-- Shift, within its bounds: upward. -/
theorem Shift_up (sm : Int) (ao : Option Addr) (n c : Nat) (z : Int) (N : Nat) (w : World) (h : IsInt w sm ao n c z) (hN : N ≤ 10000) (K : Nat) (hK : K ≤ 4194304) (hf : Fit K z) :
    Calls Tryd.prog 34 #[.agg #[.int .i64 sm, .slice ao n c], .int .i64 (N : Int)] w fun e w' => ∃ (s' : Int) (a' : Option Addr) (n' c' : Nat), e = .returned (.tuple #[.agg #[.int .i64 s', .slice a' n' c'], .agg #[.int .i64 0, .int .i64 0]]) ∧ IsInt w' s' a' n' c' (z * ((2 ^ N : Nat) : Int)) ∧ Ext w w' := by
  have hE := (Ext.trans (Ext.trans (Ext.alloc w (.cells #[.int .i64 sm, .slice ao n c] 24)) (Ext.alloc _ (.cells #[.int .i64 0, .slice none 0 0] 24))) (Ext.alloc _ (.cells #[.int .i64 0, .int .i64 0] 26)))
  have hR : Res (((w.alloc (.cells #[.int .i64 sm, .slice ao n c] 24)).alloc (.cells #[.int .i64 0, .slice none 0 0] 24)).alloc (.cells #[.int .i64 0, .int .i64 0] 26)) (w.heap.size + 1) := by
    have h1 := heap_alloc_new (w.alloc (.cells #[.int .i64 sm, .slice ao n c] 24)) (.cells #[.int .i64 0, .slice none 0 0] 24)
    rw [show (w.alloc (.cells #[.int .i64 sm, .slice ao n c] 24)).heap.size = w.heap.size + 1 from by simp] at h1
    exact ⟨by simp, (Below.heap_alloc _ _ _ (by simp)).trans h1⟩
  have hF : FRes (((w.alloc (.cells #[.int .i64 sm, .slice ao n c] 24)).alloc (.cells #[.int .i64 0, .slice none 0 0] 24)).alloc (.cells #[.int .i64 0, .int .i64 0] 26)) (w.heap.size + 1 + 1) :=
    ⟨by simp, zfi_new w _ _⟩
  have H := hid h; have Hf := hid hf
  have i1 : ¬ (N : Int) < -10000 := by omega
  have i2 : ¬ (10000 : Int) < (N : Int) := by omega
  have i3 : ¬ (N : Int) < 0 := by omega
  have hw : IntKind.u64.wrap (N : Int) = (N : Int) := by rw [IntKind.wrap_u64]; omega
  clear h hf
  go_enter Tryd.func34, Tryd.ntmps34
  go_wp2_with fail
  generalize ((w.alloc (.cells #[.int .i64 sm, .slice ao n c] 24)).alloc (.cells #[.int .i64 0, .slice none 0 0] 24)).alloc (.cells #[.int .i64 0, .int .i64 0] 26) = W0 at *
  refine (double_any sm ao n c z N W0 (H.out.ext hE) (by omega) K hK Hf.out).mono ?_
  rintro e w3 ⟨s4, a4, n4, c4, rfl, hI4, he4⟩
  have hr4 := hR.ext he4; have hf4 := hF.ext he4
  have k0 := hr4.c0; have k1 := hr4.c1; have g0 := hr4.f0; have g1 := hr4.f1
  have k2 := hf4.c0; have k3 := hf4.c1; have g2 := hf4.f0; have g3 := hf4.f1
  go_wp2_with fail
  exact bodyPost_ret (v := .tuple #[.agg #[.int .i64 s4, .slice a4 n4 c4], .agg #[.int .i64 0, .int .i64 0]]) (by simp [results, Tryd.results34, go_sem, k0, k1, k2, k3]) rfl
    ⟨s4, a4, n4, c4, rfl, (hI4.cast (by rw [two_cast])).keep64 (Keep64.set4 (.i64 k0) (.slice k1) (.i64 k2) (.i64 k3) (notW_i64 _) (notW_slice _ _ _) (notW_i64 _) _), ((((hE.trans he4).set (show w.heap.size ≤ w.heap.size + 1 by omega) _).set (show w.heap.size ≤ w.heap.size + 1 by omega) _).set (show w.heap.size ≤ w.heap.size + 1 + 1 by omega) _).set (show w.heap.size ≤ w.heap.size + 1 + 1 by omega) _⟩

set_option maxHeartbeats 2000000 in
set_option maxRecDepth 100000 in
/-- Downward. -/
theorem Shift_down (sm : Int) (ao : Option Addr) (n c : Nat) (z : Int) (N : Nat) (w : World) (h : IsInt w sm ao n c z) (hN : N ≤ 10000) (hN1 : 1 ≤ N) (K : Nat) (hK : K ≤ 4194304) (hK1 : 1 ≤ K) (hf : Fit K z) (hbr : Bru w) :
    Calls Tryd.prog 34 #[.agg #[.int .i64 sm, .slice ao n c], .int .i64 (-(N : Int))] w fun e w' => ∃ (s' : Int) (a' : Option Addr) (n' c' : Nat), e = .returned (.tuple #[.agg #[.int .i64 s', .slice a' n' c'], .agg #[.int .i64 0, .int .i64 0]]) ∧ IsInt w' s' a' n' c' (z / ((2 ^ N : Nat) : Int)) ∧ Ext w w' := by
  have hE := (Ext.trans (Ext.trans (Ext.alloc w (.cells #[.int .i64 sm, .slice ao n c] 24)) (Ext.alloc _ (.cells #[.int .i64 0, .slice none 0 0] 24))) (Ext.alloc _ (.cells #[.int .i64 0, .int .i64 0] 26)))
  have hR : Res (((w.alloc (.cells #[.int .i64 sm, .slice ao n c] 24)).alloc (.cells #[.int .i64 0, .slice none 0 0] 24)).alloc (.cells #[.int .i64 0, .int .i64 0] 26)) (w.heap.size + 1) := by
    have h1 := heap_alloc_new (w.alloc (.cells #[.int .i64 sm, .slice ao n c] 24)) (.cells #[.int .i64 0, .slice none 0 0] 24)
    rw [show (w.alloc (.cells #[.int .i64 sm, .slice ao n c] 24)).heap.size = w.heap.size + 1 from by simp] at h1
    exact ⟨by simp, (Below.heap_alloc _ _ _ (by simp)).trans h1⟩
  have hF : FRes (((w.alloc (.cells #[.int .i64 sm, .slice ao n c] 24)).alloc (.cells #[.int .i64 0, .slice none 0 0] 24)).alloc (.cells #[.int .i64 0, .int .i64 0] 26)) (w.heap.size + 1 + 1) :=
    ⟨by simp, zfi_new w _ _⟩
  have H := hid h; have Hf := hid hf; have Hbr := hid hbr
  obtain ⟨k, hk⟩ : ∃ k : Int, -(N : Int) = k := ⟨_, rfl⟩
  rw [hk]
  have i1 : ¬ k < -10000 := by omega
  have i2 : ¬ (10000 : Int) < k := by omega
  have i3 : k < 0 := by omega
  have i4 : -9223372036854775808 ≤ k := by omega
  have hw1 : IntKind.i64.wrap (-k) = (N : Int) := by rw [IntKind.wrap_i64]; omega
  have hw0 : -k = (N : Int) := by omega
  have hw : IntKind.u64.wrap (N : Int) = (N : Int) := by rw [IntKind.wrap_u64]; omega
  clear h hf hbr hk
  go_enter Tryd.func34, Tryd.ntmps34
  go_wp2_with fail
  generalize ((w.alloc (.cells #[.int .i64 sm, .slice ao n c] 24)).alloc (.cells #[.int .i64 0, .slice none 0 0] 24)).alloc (.cells #[.int .i64 0, .int .i64 0] 26) = W0 at *
  refine (halve_any sm ao n c z N W0 (H.out.ext hE) (by omega) K hK hK1 Hf.out (bru_ext Hbr.out hE)).mono ?_
  rintro e w3 ⟨s4, a4, n4, c4, rfl, hI4, he4⟩
  have hr4 := hR.ext he4; have hf4 := hF.ext he4
  have k0 := hr4.c0; have k1 := hr4.c1; have g0 := hr4.f0; have g1 := hr4.f1
  have k2 := hf4.c0; have k3 := hf4.c1; have g2 := hf4.f0; have g3 := hf4.f1
  go_wp2_with fail
  exact bodyPost_ret (v := .tuple #[.agg #[.int .i64 s4, .slice a4 n4 c4], .agg #[.int .i64 0, .int .i64 0]]) (by simp [results, Tryd.results34, go_sem, k0, k1, k2, k3]) rfl
    ⟨s4, a4, n4, c4, rfl, (hI4.cast (by rw [two_cast])).keep64 (Keep64.set4 (.i64 k0) (.slice k1) (.i64 k2) (.i64 k3) (notW_i64 _) (notW_slice _ _ _) (notW_i64 _) _), ((((hE.trans he4).set (show w.heap.size ≤ w.heap.size + 1 by omega) _).set (show w.heap.size ≤ w.heap.size + 1 by omega) _).set (show w.heap.size ≤ w.heap.size + 1 + 1 by omega) _).set (show w.heap.size ≤ w.heap.size + 1 + 1 by omega) _⟩

set_option maxHeartbeats 1000000 in
set_option maxRecDepth 100000 in
/-- Beyond its bounds. -/
theorem Shift_bad (sm : Int) (ao : Option Addr) (n c : Nat) (k : Int) (w : World) (hb : k < -10000 ∨ 10000 < k) :
    Calls Tryd.prog 34 #[.agg #[.int .i64 sm, .slice ao n c], .int .i64 k] w fun e w' => e = .returned (.tuple #[.agg #[.int .i64 0, .slice none 0 0], .agg #[.int .i64 5, .int .i64 0]]) ∧ Ext w w' := by
  rcases hb with hb | hb
  · go_enter Tryd.func34, Tryd.ntmps34
    go_wp2_with fail
    exact bodyPost_ret (v := .tuple #[.agg #[.int .i64 0, .slice none 0 0], .agg #[.int .i64 5, .int .i64 0]]) (by simp [results, Tryd.results34, go_sem]) rfl ⟨rfl, (Ext.trans (Ext.trans (Ext.alloc _ _) (Ext.alloc _ _)) (Ext.alloc _ _))⟩
  · have hb' : ¬ k < -10000 := by omega
    go_enter Tryd.func34, Tryd.ntmps34
    go_wp2_with fail
    exact bodyPost_ret (v := .tuple #[.agg #[.int .i64 0, .slice none 0 0], .agg #[.int .i64 5, .int .i64 0]]) (by simp [results, Tryd.results34, go_sem]) rfl ⟨rfl, (Ext.trans (Ext.trans (Ext.alloc _ _) (Ext.alloc _ _)) (Ext.alloc _ _))⟩

end Go.Proofs.YtciglkaekecddaaDoor
