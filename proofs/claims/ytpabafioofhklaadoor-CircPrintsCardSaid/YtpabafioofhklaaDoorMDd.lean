/-
  The reference's SameInts and SameCircuit, of alike lists and circuits.
-/
import Derived.Test.YtpabafioofhklaaDoorMCq

namespace Go.Proofs.YtpabafioofhklaaDoor
open Go.RowKit

set_option maxHeartbeats 1000000 in
theorem sameInts_any (l : List Int) (a1 : Option Addr) (n c1 : Nat) (a2 : Option Addr) (c2 : Nat) (w : World) (h1 : IntsAt w a1 n l) (h2 : IntsAt w a2 n l) (hc1 : n ≤ c1) (hm1 : c1 ≤ 9223372036854775807) :
    Calls Tryd.prog 39 #[.slice a1 n c1, .slice a2 n c2] w fun e w' => e = .returned (.bool true) ∧ Ext w w' := by
  have H1 := Lib.hid h1; have H2 := Lib.hid h2
  clear h1 h2
  go_enter Tryd.func39, Tryd.ntmps39
  go_wp2_with fail
  go_loopg [5] n (fun kk s5 wx => ∃ i : Nat, s5 = .int .i64 (i : Int) ∧ i ≤ n ∧ n - i = kk ∧ Ext w wx)
  case atStart => exact ⟨0, rfl, by omega, by omega, Ext.refl w⟩
  case round =>
    obtain ⟨i, rfl, hi1, hk, hE⟩ := hrel
    have HE := Lib.hid hE
    by_cases hin : i = n
    · have h2 : ¬ (i : Int) < (n : Int) := by omega
      clear hE
      go_wp2_with fail
      go_ret
      exact ⟨rfl, HE.out⟩
    · have h2 : (i : Int) < (n : Int) := by omega
      have h0 : (0 : Int) ≤ (i : Int) := by omega
      obtain ⟨b1, o1, rfl, hb1, hc1'⟩ := (H1.out.ext hE).at (by omega)
      obtain ⟨b2, o2, rfl, hb2, hc2'⟩ := (H2.out.ext hE).at (by omega)
      have e1 := hc1' i (by omega); have e2 := hc2' i (by omega)
      obtain ⟨x, hx⟩ : ∃ x, l.getD i 0 = x := ⟨_, rfl⟩
      rw [hx] at e1 e2
      have HEd := Lib.hid (cdrew hE)
      clear hE hc1' hc2' hx
      go_wp2_with fail
      go_region
      go_wp2_with fail
      go_roundg (n - (i + 1))
      case measure => omega
      case rel => exact ⟨i + 1, by go_num, by omega, rfl, HEd.out⟩

set_option maxHeartbeats 4000000 in
set_option maxRecDepth 100000 in
theorem sameCircuit_any (c : Gci) (a1 : Option Addr) (n c1 : Nat) (a2 : Option Addr) (c2 : Nat) (w : World) (h1 : OpsAt w a1 n c.ops) (h2 : OpsAt w a2 n c.ops) (hn1 : n ≤ c1) (hm1 : c1 ≤ 9223372036854775807) (_hn2 : n ≤ c2) (_hm2 : c2 ≤ 9223372036854775807) :
    Calls Tryd.prog 17 #[.agg #[.int .i64 c.qubits, .int .i64 c.bits, .slice a1 n c1], .agg #[.int .i64 c.qubits, .int .i64 c.bits, .slice a2 n c2]] w fun e w' => e = .returned (.bool true) ∧ Ext w w' := by
  obtain ⟨qb, bi, ops⟩ := c
  simp only at h1 h2 ⊢
  obtain ⟨A1, hA1⟩ : ∃ A1, w.alloc (.cells #[.int .i64 qb, .int .i64 bi, .slice a1 n c1] 24) = A1 := ⟨_, rfl⟩
  obtain ⟨A2, hA2⟩ : ∃ A2, A1.alloc (.cells #[.int .i64 qb, .int .i64 bi, .slice a2 n c2] 24) = A2 := ⟨_, rfl⟩
  have s1 : A1.heap.size = w.heap.size + 1 := by rw [← hA1]; simp
  have x1 : Ext w A1 := by rw [← hA1]; exact ext_al _ _
  have x2 : Ext A1 A2 := by rw [← hA2]; exact ext_al _ _
  have bC : CiB A2 w.heap.size qb bi a1 n c1 := by
    have : CiB A1 w.heap.size qb bi a1 n c1 := by rw [← hA1]; exact ⟨heap_alloc_new w _⟩
    exact this.ext x2
  have bD : CiB A2 (w.heap.size + 1) qb bi a2 n c2 := by rw [← hA2, ← s1]; exact ⟨heap_alloc_new A1 _⟩
  have hA : (w.alloc (.cells #[.int .i64 qb, .int .i64 bi, .slice a1 n c1] 24)).alloc (.cells #[.int .i64 qb, .int .i64 bi, .slice a2 n c2] 24) = A2 := by rw [hA1, hA2]
  have E0 := x1.trans x2
  have m0 := bC.x0; have m1 := bC.x1; have m2 := bC.x2; have k0 := bD.x0; have k1 := bD.x1; have k2 := bD.x2
  rw [← hA] at m0 m1 m2 k0 k1 k2
  have HA := Lib.hid hA; have HC := Lib.hid bC; have HD := Lib.hid bD; have HE0 := Lib.hid E0
  have H1 := Lib.hid h1; have H2 := Lib.hid h2; have Hl := Lib.hid h1.1
  clear h1 h2 hA1 hA2 s1 x1 x2 bC bD hA E0
  go_enter Tryd.func17, Tryd.ntmps17
  go_wp2_with fail
  rw [HA.out]
  clear m0 m1 m2 k0 k1 k2
  go_loopg [5] n (fun kk s5 wx => ∃ i : Nat, s5 = .int .i64 (i : Int) ∧ i ≤ n ∧ n - i = kk ∧ Ext A2 wx)
  case atStart => exact ⟨0, rfl, by omega, by omega, Ext.refl A2⟩
  case round =>
    obtain ⟨i, rfl, hi1, hk, hE⟩ := hrel
    have m2 := (HC.out.ext hE).x2; have k2 := (HD.out.ext hE).x2
    by_cases hin : i = n
    · have h2 : ¬ (i : Int) < (n : Int) := by omega
      have HE := Lib.hid (HE0.out.trans hE)
      clear hE
      go_wp2_with fail
      go_ret
      exact ⟨rfl, HE.out⟩
    · have h2 : (i : Int) < (n : Int) := by omega
      have h0 : (0 : Int) ≤ (i : Int) := by omega
      obtain ⟨b, o, rfl⟩ := H1.out.some_of (by omega)
      obtain ⟨b', o', rfl⟩ := H2.out.some_of (by omega)
      obtain ⟨g, hg⟩ : ∃ g, ops[i]? = some g := ⟨_, List.getElem?_eq_getElem (by rw [Hl.out]; omega)⟩
      obtain ⟨p1, q1, r1, p2, q2, r2, e0, e1, e2, e3, e4, e5, hL⟩ := ((H1.out.ext HE0.out).ext hE).at i g hg
      obtain ⟨p1', q1', r1', p2', q2', r2', d0, d1, d2, d3, d4, d5, hL'⟩ := ((H2.out.ext HE0.out).ext hE).at i g hg
      have hq1 := hL.i1.1.symm.trans hL'.i1.1; have hq2 := hL.i2.1.symm.trans hL'.i2.1
      subst hq1; subst hq2
      have Ea := ext_al wr (.cells #[.int .i64 g.kind, .int .i64 g.k, .slice p1 q1 r1, .int .i64 g.q, .int .i64 g.bit, .slice p2 q2 r2] 45)
      have bO := opbx_new wr g.kind g.k p1 q1 r1 g.q g.bit p2 q2 r2
      obtain ⟨X1, hX1⟩ : ∃ X, wr.alloc (.cells #[.int .i64 g.kind, .int .i64 g.k, .slice p1 q1 r1, .int .i64 g.q, .int .i64 g.bit, .slice p2 q2 r2] 45) = X := ⟨_, rfl⟩
      have sX : X1.heap.size = wr.heap.size + 1 := by rw [← hX1]; simp
      rw [hX1] at Ea bO
      have Eb := ext_al X1 (.cells #[.int .i64 g.kind, .int .i64 g.k, .slice p1' q1 r1', .int .i64 g.q, .int .i64 g.bit, .slice p2' q2 r2'] 45)
      have bP := opbx_new X1 g.kind g.k p1' q1 r1' g.q g.bit p2' q2 r2'
      rw [sX] at bP
      obtain ⟨X2, hX2⟩ : ∃ X, X1.alloc (.cells #[.int .i64 g.kind, .int .i64 g.k, .slice p1' q1 r1', .int .i64 g.q, .int .i64 g.bit, .slice p2' q2 r2'] 45) = X := ⟨_, rfl⟩
      rw [hX2] at Eb bP
      have bO2 := bO.ext Eb
      have EX := Ea.trans Eb
      have HXX : Hid ((wr.alloc (.cells #[.int .i64 g.kind, .int .i64 g.k, .slice p1 q1 r1, .int .i64 g.q, .int .i64 g.bit, .slice p2 q2 r2] 45)).alloc (.cells #[.int .i64 g.kind, .int .i64 g.k, .slice p1' q1 r1', .int .i64 g.q, .int .i64 g.bit, .slice p2' q2 r2'] 45) = X2) := by show _ = _; rw [hX1, hX2]
      have d0' := cell_ext d0 Ea; have d1' := cell_ext d1 Ea; have d2' := cell_ext d2 Ea; have d3' := cell_ext d3 Ea; have d4' := cell_ext d4 Ea; have d5' := cell_ext d5 Ea
      have k2' := cell_ext k2 Ea
      rw [← hX1] at d0' d1' d2' d3' d4' d5' k2'
      have HS1 := Lib.hid (fun wx (hx : Ext X2 wx) => sameInts_any g.ctl p1 q1 r1 p1' r1' wx ((hL.i1.ext EX).ext hx) ((hL'.i1.ext EX).ext hx) hL.h1 hL.m1)
      have HS2 := Lib.hid (fun wx (hx : Ext X2 wx) => sameInts_any g.cnd p2 q2 r2 p2' r2' wx ((hL.i2.ext EX).ext hx) ((hL'.i2.ext EX).ext hx) hL.h2 hL.m2)
      obtain ⟨kd, kk', ctl, qq, bb, cnd⟩ := g
      simp only at e0 e1 e2 e3 e4 e5 d0' d1' d2' d3' d4' d5' k2' bO2 bP HXX HS1 HS2
      have p_0 := bO2.x0; have p_1 := bO2.x1; have p_2 := bO2.x2; have p_3 := bO2.x3; have p_4 := bO2.x4; have p_5 := bO2.x5
      have q_0 := bP.x0; have q_1 := bP.x1; have q_2 := bP.x2; have q_3 := bP.x3; have q_4 := bP.x4; have q_5 := bP.x5
      rw [← HXX.out] at p_0 p_1 p_2 p_3 p_4 p_5 q_0 q_1 q_2 q_3 q_4 q_5
      have HbO := Lib.hid bO2; have HbP := Lib.hid bP
      have HEX := Lib.hid (hE.trans EX)
      clear hg hL hL' d0 d1 d2 d3 d4 d5 Ea Eb bO bP bO2 hX1 hX2 sX EX hE k2
      go_wp2_with fail
      rw [HXX.out]
      refine (HS1.out X2 (Ext.refl X2)).mono ?_
      rintro e w5 ⟨rfl, hx5⟩
      have p_5 := (HbO.out.ext hx5).x5; have q_5 := (HbP.out.ext hx5).x5
      have HX5 := Lib.hid hx5
      clear hx5
      go_wp2_with fail
      refine (HS2.out w5 HX5.out).mono ?_
      rintro e w6 ⟨rfl, hx6⟩
      have HE6 := Lib.hid ((HEX.out.trans HX5.out).trans hx6)
      clear hx6
      go_wp2_with fail
      go_roundg (n - (i + 1))
      case measure => omega
      case rel => exact ⟨i + 1, by go_num, by omega, rfl, HE6.out⟩

end Go.Proofs.YtpabafioofhklaaDoor
