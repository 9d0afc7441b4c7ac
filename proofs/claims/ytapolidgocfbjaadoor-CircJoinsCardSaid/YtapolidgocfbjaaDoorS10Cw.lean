/-
  The reference's SameInts and SameCircuit, of alike lists and circuits. The law's own comparison of two circuits that are answered. CircJoins: its walk. A circuit that was handed in, opened: its operations and their lists as they lie in memory. The table of kinds, as it is laid; what is asked behind a call that leaves all that lay there as it was.
-/
import Derived.Test.YtapolidgocfbjaaDoorProg
import Derived.Test.YtapolidgocfbjaaDoorRows
import Derived.BigQuiet
import Derived.Carry
import Derived.ChangeSame
import Derived.Deep.AppendLies
import Derived.Deep.Cut
import Derived.Deep.CutRange
import Derived.Deep.LoopGhost
import Derived.Deep.QuietTactic
import Derived.Deep.RegionHeld3
import Derived.Deep.Slices
import Derived.Defers
import Derived.FnData
import Derived.Laws.AppendOwnNone
import Derived.Laws.Bits64b
import Derived.Laws.Concat
import Derived.Laws.CopyOwn
import Derived.Laws.IdiomStrings
import Derived.Laws.ResultCell
import Derived.Lib.AppendStr
import Derived.Lib.AppendZeros
import Derived.Lib.AppendZerosOnto
import Derived.Lib.BitFns
import Derived.Lib.Hide
import Derived.Lib.ItoaMem
import Derived.Lib.ItoaNum
import Derived.Lib.Strings
import Derived.Maps.AppendAt
import Derived.OpenShut
import Derived.OwnWalk
import Derived.Recover
import Derived.Shelf.LaysM
import Derived.Shelf.Strconv.Itoa0
import Derived.Shelf.Strconv.Itoa1
import Derived.Shelf.Strconv.Itoa2
import Derived.Shelf.Strconv.Itoa3
import Derived.Shelf.Strings.Builder1
import Derived.Shelf.Strings.BuilderF
import Derived.Shelf.Strings.BuilderK
import Derived.SizedLaws
import Derived.Stop.LaidErr
import Derived.WalkKit
import Derived.WalkLawsBesides
import Derived.WalkSpells
import Derived.Test.YtapolidgocfbjaaDoorS00Ce
import Derived.Test.YtapolidgocfbjaaDoorS01Cj
import Derived.Test.YtapolidgocfbjaaDoorShelf
import Derived.Test.YtapolidgocfbjaaDoorS03Cq
import Derived.Test.YtapolidgocfbjaaDoorS04Jc
import Derived.Test.YtapolidgocfbjaaDoorS05Gb
import Derived.Test.YtapolidgocfbjaaDoorS06Ke
import Derived.Test.YtapolidgocfbjaaDoorS07Kf
import Derived.Test.YtapolidgocfbjaaDoorS08Kd
import Derived.Test.YtapolidgocfbjaaDoorS09Bs
namespace Go.Proofs.YtapolidgocfbjaaDoor
open Go.RowKit

set_option maxHeartbeats 1000000 in
theorem sameInts_any (l : List Int) (a1 : Option Addr) (n c1 : Nat) (a2 : Option Addr) (c2 : Nat) (w : World) (h1 : IntsAt w a1 n l) (h2 : IntsAt w a2 n l) (hc1 : n ≤ c1) (hm1 : c1 ≤ 9223372036854775807) :
    Calls Tryd.prog 16 #[.slice a1 n c1, .slice a2 n c2] w fun e w' => e = .returned (.bool true) ∧ Ext w w' := by
  have H1 := Lib.hid h1; have H2 := Lib.hid h2
  clear h1 h2
  go_enter Tryd.func16, Tryd.ntmps16
  go_wp2_with fail
  go_loopg [5] n (fun kk s5 wx => ∃ i : Nat, s5 = .int .i64 (i : Int) ∧ i ≤ n ∧ n - i = kk ∧ Ext w wx)
  case atStart => exact ⟨0, rfl, by omega, by omega, Ext.refl w⟩
  case round =>
    obtain ⟨i, rfl, hi1, hk, hE⟩ := hrel
    have HE := Lib.hid hE
    by_cases hin : i = n
    · have h2 : ¬ (i : Int) < (n : Int) := by omega
      clear hE
      go_wp2_with fail
      go_ret
      exact ⟨rfl, HE.out⟩
    · have h2 : (i : Int) < (n : Int) := by omega
      have h0 : (0 : Int) ≤ (i : Int) := by omega
      obtain ⟨b1, o1, rfl, hb1, hc1'⟩ := (H1.out.ext hE).at (by omega)
      obtain ⟨b2, o2, rfl, hb2, hc2'⟩ := (H2.out.ext hE).at (by omega)
      have e1 := hc1' i (by omega); have e2 := hc2' i (by omega)
      obtain ⟨x, hx⟩ : ∃ x, l.getD i 0 = x := ⟨_, rfl⟩
      rw [hx] at e1 e2
      have HEd := Lib.hid (cdrew hE)
      clear hE hc1' hc2' hx
      go_wp2_with fail
      go_region
      go_wp2_with fail
      go_roundg (n - (i + 1))
      case measure => omega
      case rel => exact ⟨i + 1, by go_num, by omega, rfl, HEd.out⟩

set_option maxHeartbeats 4000000 in
set_option maxRecDepth 100000 in
theorem sameCircuit_any (c : Gci) (a1 : Option Addr) (n c1 : Nat) (a2 : Option Addr) (c2 : Nat) (w : World) (h1 : OpsAt w a1 n c.ops) (h2 : OpsAt w a2 n c.ops) (hn1 : n ≤ c1) (hm1 : c1 ≤ 9223372036854775807) (_hn2 : n ≤ c2) (_hm2 : c2 ≤ 9223372036854775807) :
    Calls Tryd.prog 15 #[.agg #[.int .i64 c.qubits, .int .i64 c.bits, .slice a1 n c1], .agg #[.int .i64 c.qubits, .int .i64 c.bits, .slice a2 n c2]] w fun e w' => e = .returned (.bool true) ∧ Ext w w' := by
  obtain ⟨qb, bi, ops⟩ := c
  simp only at h1 h2 ⊢
  obtain ⟨A1, hA1⟩ : ∃ A1, w.alloc (.cells #[.int .i64 qb, .int .i64 bi, .slice a1 n c1] 24) = A1 := ⟨_, rfl⟩
  obtain ⟨A2, hA2⟩ : ∃ A2, A1.alloc (.cells #[.int .i64 qb, .int .i64 bi, .slice a2 n c2] 24) = A2 := ⟨_, rfl⟩
  have s1 : A1.heap.size = w.heap.size + 1 := by rw [← hA1]; simp
  have x1 : Ext w A1 := by rw [← hA1]; exact ext_al _ _
  have x2 : Ext A1 A2 := by rw [← hA2]; exact ext_al _ _
  have bC : CiB A2 w.heap.size qb bi a1 n c1 := by
    have : CiB A1 w.heap.size qb bi a1 n c1 := by rw [← hA1]; exact ⟨heap_alloc_new w _⟩
    exact this.ext x2
  have bD : CiB A2 (w.heap.size + 1) qb bi a2 n c2 := by rw [← hA2, ← s1]; exact ⟨heap_alloc_new A1 _⟩
  have hA : (w.alloc (.cells #[.int .i64 qb, .int .i64 bi, .slice a1 n c1] 24)).alloc (.cells #[.int .i64 qb, .int .i64 bi, .slice a2 n c2] 24) = A2 := by rw [hA1, hA2]
  have E0 := x1.trans x2
  have m0 := bC.x0; have m1 := bC.x1; have m2 := bC.x2; have k0 := bD.x0; have k1 := bD.x1; have k2 := bD.x2
  rw [← hA] at m0 m1 m2 k0 k1 k2
  have HA := Lib.hid hA; have HC := Lib.hid bC; have HD := Lib.hid bD; have HE0 := Lib.hid E0
  have H1 := Lib.hid h1; have H2 := Lib.hid h2; have Hl := Lib.hid h1.1
  clear h1 h2 hA1 hA2 s1 x1 x2 bC bD hA E0
  go_enter Tryd.func15, Tryd.ntmps15
  go_wp2_with fail
  rw [HA.out]
  clear m0 m1 m2 k0 k1 k2
  go_loopg [5] n (fun kk s5 wx => ∃ i : Nat, s5 = .int .i64 (i : Int) ∧ i ≤ n ∧ n - i = kk ∧ Ext A2 wx)
  case atStart => exact ⟨0, rfl, by omega, by omega, Ext.refl A2⟩
  case round =>
    obtain ⟨i, rfl, hi1, hk, hE⟩ := hrel
    have m2 := (HC.out.ext hE).x2; have k2 := (HD.out.ext hE).x2
    by_cases hin : i = n
    · have h2 : ¬ (i : Int) < (n : Int) := by omega
      have HE := Lib.hid (HE0.out.trans hE)
      clear hE
      go_wp2_with fail
      go_ret
      exact ⟨rfl, HE.out⟩
    · have h2 : (i : Int) < (n : Int) := by omega
      have h0 : (0 : Int) ≤ (i : Int) := by omega
      obtain ⟨b, o, rfl⟩ := H1.out.some_of (by omega)
      obtain ⟨b', o', rfl⟩ := H2.out.some_of (by omega)
      obtain ⟨g, hg⟩ : ∃ g, ops[i]? = some g := ⟨_, List.getElem?_eq_getElem (by rw [Hl.out]; omega)⟩
      obtain ⟨p1, q1, r1, p2, q2, r2, e0, e1, e2, e3, e4, e5, hL⟩ := ((H1.out.ext HE0.out).ext hE).at i g hg
      obtain ⟨p1', q1', r1', p2', q2', r2', d0, d1, d2, d3, d4, d5, hL'⟩ := ((H2.out.ext HE0.out).ext hE).at i g hg
      have hq1 := hL.i1.1.symm.trans hL'.i1.1; have hq2 := hL.i2.1.symm.trans hL'.i2.1
      subst hq1; subst hq2
      have Ea := ext_al wr (.cells #[.int .i64 g.kind, .int .i64 g.k, .slice p1 q1 r1, .int .i64 g.q, .int .i64 g.bit, .slice p2 q2 r2] 43)
      have bO := opbx_new wr g.kind g.k p1 q1 r1 g.q g.bit p2 q2 r2
      obtain ⟨X1, hX1⟩ : ∃ X, wr.alloc (.cells #[.int .i64 g.kind, .int .i64 g.k, .slice p1 q1 r1, .int .i64 g.q, .int .i64 g.bit, .slice p2 q2 r2] 43) = X := ⟨_, rfl⟩
      have sX : X1.heap.size = wr.heap.size + 1 := by rw [← hX1]; simp
      rw [hX1] at Ea bO
      have Eb := ext_al X1 (.cells #[.int .i64 g.kind, .int .i64 g.k, .slice p1' q1 r1', .int .i64 g.q, .int .i64 g.bit, .slice p2' q2 r2'] 43)
      have bP := opbx_new X1 g.kind g.k p1' q1 r1' g.q g.bit p2' q2 r2'
      rw [sX] at bP
      obtain ⟨X2, hX2⟩ : ∃ X, X1.alloc (.cells #[.int .i64 g.kind, .int .i64 g.k, .slice p1' q1 r1', .int .i64 g.q, .int .i64 g.bit, .slice p2' q2 r2'] 43) = X := ⟨_, rfl⟩
      rw [hX2] at Eb bP
      have bO2 := bO.ext Eb
      have EX := Ea.trans Eb
      have HXX : Hid ((wr.alloc (.cells #[.int .i64 g.kind, .int .i64 g.k, .slice p1 q1 r1, .int .i64 g.q, .int .i64 g.bit, .slice p2 q2 r2] 43)).alloc (.cells #[.int .i64 g.kind, .int .i64 g.k, .slice p1' q1 r1', .int .i64 g.q, .int .i64 g.bit, .slice p2' q2 r2'] 43) = X2) := by show _ = _; rw [hX1, hX2]
      have d0' := cell_ext d0 Ea; have d1' := cell_ext d1 Ea; have d2' := cell_ext d2 Ea; have d3' := cell_ext d3 Ea; have d4' := cell_ext d4 Ea; have d5' := cell_ext d5 Ea
      have k2' := cell_ext k2 Ea
      rw [← hX1] at d0' d1' d2' d3' d4' d5' k2'
      have HS1 := Lib.hid (fun wx (hx : Ext X2 wx) => sameInts_any g.ctl p1 q1 r1 p1' r1' wx ((hL.i1.ext EX).ext hx) ((hL'.i1.ext EX).ext hx) hL.h1 hL.m1)
      have HS2 := Lib.hid (fun wx (hx : Ext X2 wx) => sameInts_any g.cnd p2 q2 r2 p2' r2' wx ((hL.i2.ext EX).ext hx) ((hL'.i2.ext EX).ext hx) hL.h2 hL.m2)
      obtain ⟨kd, kk', ctl, qq, bb, cnd⟩ := g
      simp only at e0 e1 e2 e3 e4 e5 d0' d1' d2' d3' d4' d5' k2' bO2 bP HXX HS1 HS2
      have p_0 := bO2.x0; have p_1 := bO2.x1; have p_2 := bO2.x2; have p_3 := bO2.x3; have p_4 := bO2.x4; have p_5 := bO2.x5
      have q_0 := bP.x0; have q_1 := bP.x1; have q_2 := bP.x2; have q_3 := bP.x3; have q_4 := bP.x4; have q_5 := bP.x5
      rw [← HXX.out] at p_0 p_1 p_2 p_3 p_4 p_5 q_0 q_1 q_2 q_3 q_4 q_5
      have HbO := Lib.hid bO2; have HbP := Lib.hid bP
      have HEX := Lib.hid (hE.trans EX)
      clear hg hL hL' d0 d1 d2 d3 d4 d5 Ea Eb bO bP bO2 hX1 hX2 sX EX hE k2
      go_wp2_with fail
      rw [HXX.out]
      refine (HS1.out X2 (Ext.refl X2)).mono ?_
      rintro e w5 ⟨rfl, hx5⟩
      have p_5 := (HbO.out.ext hx5).x5; have q_5 := (HbP.out.ext hx5).x5
      have HX5 := Lib.hid hx5
      clear hx5
      go_wp2_with fail
      refine (HS2.out w5 HX5.out).mono ?_
      rintro e w6 ⟨rfl, hx6⟩
      have HE6 := Lib.hid ((HEX.out.trans HX5.out).trans hx6)
      clear hx6
      go_wp2_with fail
      go_roundg (n - (i + 1))
      case measure => omega
      case rel => exact ⟨i + 1, by go_num, by omega, rfl, HE6.out⟩

end Go.Proofs.YtapolidgocfbjaaDoor
namespace Go.Proofs.YtapolidgocfbjaaDoor
open Go.RowKit

set_option maxHeartbeats 2000000 in
set_option maxRecDepth 100000 in
theorem answers_any (c : Gci) (a1 : Option Addr) (n c1 : Nat) (a2 : Option Addr) (c2 : Nat) (u v : Int) (w : World) (h1 : OpsAt w a1 n c.ops) (h2 : OpsAt w a2 n c.ops) (hn1 : n ≤ c1) (hm1 : c1 ≤ 9223372036854775807) (hn2 : n ≤ c2) (hm2 : c2 ≤ 9223372036854775807) :
    Calls Tryd.prog 10 #[.agg #[.int .i64 c.qubits, .int .i64 c.bits, .slice a1 n c1], .agg #[.int .i64 u, .int .i64 v], .agg #[.int .i64 c.qubits, .int .i64 c.bits, .slice a2 n c2], .agg #[.int .i64 u, .int .i64 v]] w fun e w' => e = .returned (.bool true) ∧ Ext w w' := by
  obtain ⟨qb, bi, ops⟩ := c
  simp only at h1 h2 ⊢
  obtain ⟨A1, hA1⟩ : ∃ A1, w.alloc (.cells #[.int .i64 qb, .int .i64 bi, .slice a1 n c1] 24) = A1 := ⟨_, rfl⟩
  obtain ⟨A2, hA2⟩ : ∃ A2, A1.alloc (.cells #[.int .i64 u, .int .i64 v] 28) = A2 := ⟨_, rfl⟩
  obtain ⟨A3, hA3⟩ : ∃ A3, A2.alloc (.cells #[.int .i64 qb, .int .i64 bi, .slice a2 n c2] 24) = A3 := ⟨_, rfl⟩
  obtain ⟨A4, hA4⟩ : ∃ A4, A3.alloc (.cells #[.int .i64 u, .int .i64 v] 28) = A4 := ⟨_, rfl⟩
  have hA : (((w.alloc (.cells #[.int .i64 qb, .int .i64 bi, .slice a1 n c1] 24)).alloc (.cells #[.int .i64 u, .int .i64 v] 28)).alloc (.cells #[.int .i64 qb, .int .i64 bi, .slice a2 n c2] 24)).alloc (.cells #[.int .i64 u, .int .i64 v] 28) = A4 := by rw [hA1, hA2, hA3, hA4]
  have E4 : Ext w A4 := by rw [← hA4, ← hA3, ← hA2, ← hA1]; exact (((ext_al _ _).trans (ext_al _ _)).trans (ext_al _ _)).trans (ext_al _ _)
  have HSc := Lib.hid (sameCircuit_any ⟨qb, bi, ops⟩ a1 n c1 a2 c2 A4 (h1.ext E4) (h2.ext E4) hn1 hm1 hn2 hm2)
  have HA := Lib.hid hA; have HE := Lib.hid E4
  clear h1 h2 hA1 hA2 hA3 hA4 hA E4
  simp only at HSc
  go_enter Tryd.func10, Tryd.ntmps10
  go_wp2_with fail
  rw [HA.out]
  refine HSc.out.mono ?_
  rintro e w1 ⟨rfl, hx1⟩
  have HX := Lib.hid (HE.out.trans hx1)
  clear hx1
  go_wp2_with fail
  go_ret
  exact ⟨rfl, HX.out⟩

end Go.Proofs.YtapolidgocfbjaaDoor
namespace Go.Proofs.YtapolidgocfbjaaDoor
open Go.RowKit

theorem answers_N (g : Gci) (b1 b2 : Nat) (a1 : Option Addr) (m1 c1 : Nat) (a2 : Option Addr) (m2 c2 : Nat) (u v : Int) (w : World) (h1 : OpsN w b1 (.slice a1 m1 c1) g.ops) (h2 : OpsN w b2 (.slice a2 m2 c2) g.ops) :
    Calls Tryd.prog 10 #[.agg #[.int .i64 g.qubits, .int .i64 g.bits, .slice a1 m1 c1], .agg #[.int .i64 u, .int .i64 v], .agg #[.int .i64 g.qubits, .int .i64 g.bits, .slice a2 m2 c2], .agg #[.int .i64 u, .int .i64 v]] w fun e w' => e = .returned (.bool true) ∧ Ext w w' := by
  obtain ⟨p1, p2, p3, p4⟩ := h1.at
  obtain ⟨q1, q2, q3, q4⟩ := h2.at
  obtain rfl : m1 = m2 := p1.symm.trans q1
  exact answers_any g a1 m1 c1 a2 c2 u v w p4 q4 p2 p3 q2 q3

set_option maxHeartbeats 8000000 in
set_option maxRecDepth 100000 in
theorem joins_walk (c d : Gci) (ao : Option Addr) (n cp : Nat) (bo : Option Addr) (m cq : Nat) (x : Int) (w : World) (h : OpsAt w ao n c.ops) (hn : n ≤ cp) (hcp : cp ≤ 9223372036854775807) (hbn : n * 80 ≤ 140737488355328) (hbl : ∀ g ∈ c.ops, g.ctl.length * 8 ≤ 140737488355328 ∧ g.cnd.length * 8 ≤ 140737488355328)
    (hd : OpsAt w bo m d.ops) (hm : m ≤ cq) (hcq : cq ≤ 9223372036854775807) (hbm : m * 80 ≤ 140737488355328) (hdl : ∀ g ∈ d.ops, g.ctl.length * 8 ≤ 140737488355328 ∧ g.cnd.length * 8 ≤ 140737488355328) (hx0 : -9223372036854775808 ≤ x) (hx1 : x ≤ 9223372036854775807) (hS : Shp w) :
    Calls Tryd.prog 4 #[.agg #[.int .i64 c.qubits, .int .i64 c.bits, .slice ao n cp], .agg #[.int .i64 d.qubits, .int .i64 d.bits, .slice bo m cq], .int .i64 x] w fun e w' => e = .returned (.bool true) ∧ Ext w w' := by
  obtain ⟨P, hP⟩ : ∃ P, powM c x = P := ⟨_, rfl⟩
  obtain ⟨R, hR⟩ : ∃ R, thnM c d = R := ⟨_, rfl⟩
  have HCc := Lib.hid (fun wx (hx : Ext w wx) => CopyCircuit_N c ao n cp wx (h.ext hx) hbn hbl)
  have HCd := Lib.hid (fun wx (hx : Ext w wx) => CopyCircuit_N d bo m cq wx (hd.ext hx) hbm hdl)
  have HPw := Lib.hid (fun wx (hx : Ext w wx) a1 c1 (h1 : OpsAt wx a1 n c.ops) (h2 : n ≤ c1) (h3 : c1 ≤ 9223372036854775807) => Power_U c a1 n c1 wx h1 h2 h3 x (hS.ext hx) hx0 hx1)
  have HRp := Lib.hid (fun wx (hx : Ext w wx) => RPower_U c ao n cp wx (h.ext hx) hn hcp x hx0 hx1)
  have HTh := Lib.hid (fun wx (hx : Ext w wx) a1 c1 a2 c2 (h1 : OpsAt wx a1 n c.ops) (h2 : OpsAt wx a2 m d.ops) (k1 : n ≤ c1) (k2 : c1 ≤ 9223372036854775807) (k3 : m ≤ c2) (k4 : c2 ≤ 9223372036854775807) (k5 : a1 = none → c1 = 0) (k6 : a2 = none → c2 = 0) => Then_U c d a1 n c1 a2 m c2 wx h1 h2 k1 k2 k3 k4 k5 k6 (hS.ext hx))
  have HRt := Lib.hid (fun wx (hx : Ext w wx) => RThen_U c d ao n cp bo m cq wx (h.ext hx) (hd.ext hx) hn hcp hm hcq)
  have HBg := Lib.hid (fun wx (hx : Ext w wx) => circBegun_any wx (hS.ext hx))
  rw [hP] at HPw HRp
  rw [hR] at HTh HRt
  obtain ⟨⟨pu, pv⟩, pq, pb, pops⟩ := P
  obtain ⟨⟨tu, tv⟩, tq, tb, tops⟩ := R
  obtain ⟨qa, ba, opsA⟩ := c
  obtain ⟨qb, bb, opsB⟩ := d
  unfold Ans at HPw HRp HTh HRt
  simp only at HCc HCd HPw HRp HTh HRt ⊢
  clear hP hR h hd hbl hdl hbn hbm hS
  obtain ⟨H, hH⟩ : ∃ H, w.heap.size = H := ⟨_, rfl⟩
  obtain ⟨A1, hA1⟩ : ∃ A1, w.alloc (.cells #[.int .i64 qa, .int .i64 ba, .slice ao n cp] 24) = A1 := ⟨_, rfl⟩
  obtain ⟨A2, hA2⟩ : ∃ A2, A1.alloc (.cells #[.int .i64 qb, .int .i64 bb, .slice bo m cq] 24) = A2 := ⟨_, rfl⟩
  have s1 : A1.heap.size = H + 1 := by rw [← hA1, ← hH]; simp
  have x1 : Ext w A1 := by rw [← hA1]; exact ext_al _ _
  have x2 : Ext A1 A2 := by rw [← hA2]; exact ext_al _ _
  have bC : CiB A2 H qa ba ao n cp := by
    have : CiB A1 H qa ba ao n cp := by rw [← hA1, ← hH]; exact ⟨heap_alloc_new w _⟩
    exact this.ext x2
  have bD : CiB A2 (H + 1) qb bb bo m cq := by rw [← hA2, ← s1]; exact ⟨heap_alloc_new A1 _⟩
  have E0 : Ext w A2 := x1.trans x2
  have hA : (w.alloc (.cells #[.int .i64 qa, .int .i64 ba, .slice ao n cp] 24)).alloc (.cells #[.int .i64 qb, .int .i64 bb, .slice bo m cq] 24) = A2 := by rw [hA1, hA2]
  have m0 := bC.x0; have m1 := bC.x1; have m2 := bC.x2
  rw [← hA] at m0 m1 m2
  have HA := Lib.hid hA; have HE0 := Lib.hid E0; have HC0 := Lib.hid bC; have HD0 := Lib.hid bD; have HhH := Lib.hid hH
  clear hA1 hA2 s1 x1 x2 bC bD E0 hA
  go_enter Tryd.func4, Tryd.ntmps4
  go_wp2_with fail
  rw [HA.out]
  refine (HCc.out A2 HE0.out).mono ?_
  rintro e w1 ⟨⟨a1, c1, rfl, hO1⟩, hx1'⟩
  obtain ⟨k1, k2, k3, k4⟩ := hO1.at
  have HPc := Lib.hid (HPw.out w1 (HE0.out.trans hx1') a1 c1 k4 k2 k3)
  have HE1 := Lib.hid (HE0.out.trans hx1'); have HC1 := Lib.hid (HC0.out.ext hx1'); have HD1 := Lib.hid (HD0.out.ext hx1')
  clear k1 k2 k3 k4 hO1 hx1' HC0 HD0 HE0 m0 m1 m2 HPw
  go_wp2_with fail
  refine HPc.out.mono ?_
  rintro e w2 ⟨⟨a2, m2, c2, rfl, hO2⟩, hx2⟩
  have E2 := (ext_al w2 (.cells #[.int .i64 pq, .int .i64 pb, .slice a2 m2 c2] 24)).trans (ext_al (w2.alloc (.cells #[.int .i64 pq, .int .i64 pb, .slice a2 m2 c2] 24)) (.cells #[.int .i64 pu, .int .i64 pv] 28))
  have sz2 : (w2.alloc (.cells #[.int .i64 pq, .int .i64 pb, .slice a2 m2 c2] 24)).heap.size = w2.heap.size + 1 := by simp
  have bX : CiB ((w2.alloc (.cells #[.int .i64 pq, .int .i64 pb, .slice a2 m2 c2] 24)).alloc (.cells #[.int .i64 pu, .int .i64 pv] 28)) w2.heap.size pq pb a2 m2 c2 := CiB.ext ⟨heap_alloc_new w2 _⟩ (ext_al _ _)
  have bF : FtB ((w2.alloc (.cells #[.int .i64 pq, .int .i64 pb, .slice a2 m2 c2] 24)).alloc (.cells #[.int .i64 pu, .int .i64 pv] 28)) (w2.heap.size + 1) pu pv := by rw [← sz2]; exact ⟨heap_alloc_new _ _⟩
  have hX2 := hx2.trans E2
  have HE2 := Lib.hid (HE1.out.trans hX2); have HC2 := Lib.hid (HC1.out.ext hX2); have HD2 := Lib.hid (HD1.out.ext hX2); have HX2 := Lib.hid bX; have HF2 := Lib.hid bF; have HO2 := Lib.hid (hO2.ext E2)
  have hlo : H + 2 ≤ w2.heap.size := by have h1 := (HD1.out.ext hx2).lt; omega
  have l0 := HC2.out.x0; have l1 := HC2.out.x1; have l2 := HC2.out.x2
  clear hx2 hO2 E2 sz2 bX bF hX2 HE1 HC1 HD1 HPc
  go_upto_region 2 with fail
  generalize ((w2.alloc (.cells #[.int .i64 pq, .int .i64 pb, .slice a2 m2 c2] 24)).alloc (.cells #[.int .i64 pu, .int .i64 pv] 28)) = V2 at *
  obtain ⟨X, hX⟩ : ∃ y, w2.heap.size = y := ⟨_, rfl⟩
  rw [hX] at HX2 HF2 hlo ⊢
  clear hX
  go_wp2_with fail
  refine (HRp.out V2 HE2.out).mono ?_
  rintro e w3 ⟨⟨a3, m3, c3, rfl, hO3⟩, hx3⟩
  clear l0 l1 l2
  have E3 := (ext_al w3 (.cells #[.int .i64 pq, .int .i64 pb, .slice a3 m3 c3] 24)).trans (ext_al (w3.alloc (.cells #[.int .i64 pq, .int .i64 pb, .slice a3 m3 c3] 24)) (.cells #[.int .i64 pu, .int .i64 pv] 28))
  have sz3 : (w3.alloc (.cells #[.int .i64 pq, .int .i64 pb, .slice a3 m3 c3] 24)).heap.size = w3.heap.size + 1 := by simp
  have bY : CiB ((w3.alloc (.cells #[.int .i64 pq, .int .i64 pb, .slice a3 m3 c3] 24)).alloc (.cells #[.int .i64 pu, .int .i64 pv] 28)) w3.heap.size pq pb a3 m3 c3 := CiB.ext ⟨heap_alloc_new w3 _⟩ (ext_al _ _)
  have bG : FtB ((w3.alloc (.cells #[.int .i64 pq, .int .i64 pb, .slice a3 m3 c3] 24)).alloc (.cells #[.int .i64 pu, .int .i64 pv] 28)) (w3.heap.size + 1) pu pv := by rw [← sz3]; exact ⟨heap_alloc_new _ _⟩
  have hX3 := hx3.trans E3
  have HE3 := Lib.hid (HE2.out.trans hX3); have HC3 := Lib.hid (HC2.out.ext hX3); have HD3 := Lib.hid (HD2.out.ext hX3); have HX3 := Lib.hid (HX2.out.ext hX3); have HF3 := Lib.hid (HF2.out.ext hX3); have HO3 := Lib.hid (HO2.out.ext hX3); have HY3 := Lib.hid bY; have HG3 := Lib.hid bG; have HOy3 := Lib.hid (hO3.ext E3)
  have hYl : X + 2 ≤ w3.heap.size := by have h1 := (HF2.out.ext hx3).lt; omega
  clear hx3 hO3 E3 sz3 bY bG hX3 HE2 HC2 HD2 HX2 HF2 HO2 HRp
  go_upto_region 3 with fail
  generalize ((w3.alloc (.cells #[.int .i64 pq, .int .i64 pb, .slice a3 m3 c3] 24)).alloc (.cells #[.int .i64 pu, .int .i64 pv] 28)) = V3 at *
  obtain ⟨Y, hY⟩ : ∃ y, w3.heap.size = y := ⟨_, rfl⟩
  rw [hY] at HY3 HG3 hYl ⊢
  clear hY
  go_wp2_with fail
  refine (HBg.out V3 HE3.out).mono ?_
  rintro e w4 ⟨rfl, hx4⟩
  have HE4 := Lib.hid (HE3.out.trans hx4); have HC4 := Lib.hid (HC3.out.ext hx4); have HD4 := Lib.hid (HD3.out.ext hx4); have HX4 := Lib.hid (HX3.out.ext hx4); have HF4 := Lib.hid (HF3.out.ext hx4); have HO4 := Lib.hid (HO3.out.ext hx4); have HY4 := Lib.hid (HY3.out.ext hx4); have HG4 := Lib.hid (HG3.out.ext hx4); have HOy4 := Lib.hid (HOy3.out.ext hx4)
  clear hx4 HE3 HC3 HD3 HX3 HF3 HO3 HY3 HG3 HOy3 HBg
  have HAn := Lib.hid (answers_N ⟨pq, pb, pops⟩ _ _ a2 m2 c2 a3 m3 c3 pu pv w4 HO4.out HOy4.out)
  simp only at HAn
  have u0 := HX4.out.x0; have u1 := HX4.out.x1; have u2 := HX4.out.x2; have u3 := HF4.out.x0; have u4 := HF4.out.x1; have t0 := HY4.out.x0; have t1 := HY4.out.x1; have t2 := HY4.out.x2; have t3 := HG4.out.x0; have t4 := HG4.out.x1
  go_wp2_with fail
  refine HAn.out.mono ?_
  rintro e w5 ⟨rfl, hx5⟩
  have HE5 := Lib.hid (HE4.out.trans hx5); have HC5 := Lib.hid (HC4.out.ext hx5); have HD5 := Lib.hid (HD4.out.ext hx5); have HX5 := Lib.hid (HX4.out.ext hx5); have HF5 := Lib.hid (HF4.out.ext hx5); have HY5 := Lib.hid (HY4.out.ext hx5); have HG5 := Lib.hid (HG4.out.ext hx5)
  clear hx5 u0 u1 u2 u3 u4 t0 t1 t2 t3 t4 HE4 HC4 HD4 HX4 HF4 HO4 HY4 HG4 HOy4 HAn
  go_upto_region 5 with fail
  have l0 := HC5.out.x0; have l1 := HC5.out.x1; have l2 := HC5.out.x2; have j0 := HD5.out.x0; have j1 := HD5.out.x1; have j2 := HD5.out.x2
  have hd0 : Ext w5 w5.drew := Below.drew (Ext.refl _)
  refine wp_region_K 9 (fun w' => (w'.cell? ⟨H, 0, none⟩ = some (.int .i64 qa) ∧ w'.cell? ⟨H, 1, none⟩ = some (.int .i64 ba) ∧ w'.cell? ⟨H, 2, none⟩ = some (.slice ao n cp)) ∧ (w'.cell? ⟨H + 1, 0, none⟩ = some (.int .i64 qb) ∧ w'.cell? ⟨H + 1, 1, none⟩ = some (.int .i64 bb) ∧ w'.cell? ⟨H + 1, 2, none⟩ = some (.slice bo m cq))) (by kernel_rfl) ?_
  show anyK _ _ _ _ _ _ 10 #[false, false, false, false, false, false, false, false, false, false] _ _
  have hHeld : (w5.drew.cell? ⟨H, 0, none⟩ = some (.int .i64 qa) ∧ w5.drew.cell? ⟨H, 1, none⟩ = some (.int .i64 ba) ∧ w5.drew.cell? ⟨H, 2, none⟩ = some (.slice ao n cp)) ∧ (w5.drew.cell? ⟨H + 1, 0, none⟩ = some (.int .i64 qb) ∧ w5.drew.cell? ⟨H + 1, 1, none⟩ = some (.int .i64 bb) ∧ w5.drew.cell? ⟨H + 1, 2, none⟩ = some (.slice bo m cq)) := ⟨⟨cell_ext l0 hd0, cell_ext l1 hd0, cell_ext l2 hd0⟩, cell_ext j0 hd0, cell_ext j1 hd0, cell_ext j2 hd0⟩
  refine anyK_take (i := 0) (v := ?_) rfl (by kernel_rfl) (by kernel_rfl) (by kernel_rfl) (N := 10) (by kernel_rfl) (by kernel_rfl) (by kernel_rfl) (fun _ _ _ h => h) (Or.inl ⟨by rfl, ?_⟩) hHeld ?_
  rotate_left 1
  · intro w hSw
    go_simp
    try with_reducible rfl
  show anyK _ _ _ _ _ _ _ _ (Act.put _ (some 35) _) _
  simp only [Act.put, List.setIfInBounds_toArray, List.set_cons_zero, List.set_cons_succ]
  refine anyK_take (i := 2) (v := ?_) rfl (by kernel_rfl) (by kernel_rfl) (by kernel_rfl) (N := 10) (by kernel_rfl) (by kernel_rfl) (by kernel_rfl) (fun _ _ _ h => h) (Or.inl ⟨by rfl, ?_⟩) hHeld ?_
  rotate_left 1
  · intro w hSw
    go_simp
    try with_reducible rfl
  show anyK _ _ _ _ _ _ _ _ (Act.put _ (some 37) _) _
  simp only [Act.put, List.setIfInBounds_toArray, List.set_cons_zero, List.set_cons_succ]
  clear hHeld
  refine anyK_one (i := 1) (by kernel_rfl) rfl (fun Kk hKk => ?_)
  go_simp
  (go_at_call 6; refine (HCc.out w5.drew (HE5.out.trans hd0)).mono ?_; rintro e w6 ⟨⟨a6, c6, rfl, hO6⟩, hx6⟩)
  have he6 := hd0.trans hx6
  go_wp2_with fail
  refine hKk.out _ _ (fun _ => ⟨⟨cell_ext l0 he6, cell_ext l1 he6, cell_ext l2 he6⟩, cell_ext j0 he6, cell_ext j1 he6, cell_ext j2 he6⟩) ?_
  clear hKk Kk
  simp only [List.setIfInBounds_toArray, List.set_cons_zero, List.set_cons_succ]
  refine anyK_one (i := 3) (by kernel_rfl) rfl (fun Kk hKk => ?_)
  go_simp
  (have _ := hx6; go_at_call 6; refine (HCd.out w6 (HE5.out.trans he6)).mono ?_; rintro e w7 ⟨⟨a7, c7, rfl, hO7⟩, hx7⟩)
  have he7 := he6.trans hx7
  go_wp2_with fail
  refine hKk.out _ _ (fun _ => ⟨⟨cell_ext l0 he7, cell_ext l1 he7, cell_ext l2 he7⟩, cell_ext j0 he7, cell_ext j1 he7, cell_ext j2 he7⟩) ?_
  clear hKk Kk
  simp only [List.setIfInBounds_toArray, List.set_cons_zero, List.set_cons_succ]
  have k6 := (hO6.ext hx7).at
  have k7 := hO7.at
  have HThc := Lib.hid (HTh.out w7 (HE5.out.trans he7) a6 c6 a7 c7 k6.2.2.2 k7.2.2.2 k6.2.1 k6.2.2.1 k7.2.1 k7.2.2.1 hO6.nil_cap hO7.nil_cap)
  refine anyK_one (i := 4) (by kernel_rfl) rfl (fun Kk hKk => ?_)
  go_simp
  (go_at_call 19; refine HThc.out.mono ?_; rintro e w8 ⟨⟨a8, m8, c8, rfl, hO8⟩, hx8⟩)
  have he8 := he7.trans hx8
  go_wp2_with fail
  refine hKk.out _ _ (fun _ => ⟨⟨cell_ext l0 he8, cell_ext l1 he8, cell_ext l2 he8⟩, cell_ext j0 he8, cell_ext j1 he8, cell_ext j2 he8⟩) ?_
  clear hKk Kk
  simp only [List.setIfInBounds_toArray, List.set_cons_zero, List.set_cons_succ]
  have hHeld : (w8.cell? ⟨H, 0, none⟩ = some (.int .i64 qa) ∧ w8.cell? ⟨H, 1, none⟩ = some (.int .i64 ba) ∧ w8.cell? ⟨H, 2, none⟩ = some (.slice ao n cp)) ∧ (w8.cell? ⟨H + 1, 0, none⟩ = some (.int .i64 qb) ∧ w8.cell? ⟨H + 1, 1, none⟩ = some (.int .i64 bb) ∧ w8.cell? ⟨H + 1, 2, none⟩ = some (.slice bo m cq)) := ⟨⟨cell_ext l0 he8, cell_ext l1 he8, cell_ext l2 he8⟩, cell_ext j0 he8, cell_ext j1 he8, cell_ext j2 he8⟩
  refine anyK_take (i := 5) (v := ?_) rfl (by kernel_rfl) (by kernel_rfl) (by kernel_rfl) (N := 10) (by kernel_rfl) (by kernel_rfl) (by kernel_rfl) (fun _ _ _ h => h) (Or.inl ⟨by rfl, ?_⟩) hHeld ?_
  rotate_left 1
  · intro w hSw
    go_simp
    try with_reducible rfl
  show anyK _ _ _ _ _ _ _ _ (Act.put _ (some 34) _) _
  simp only [Act.put, List.setIfInBounds_toArray, List.set_cons_zero, List.set_cons_succ]
  refine anyK_take (i := 6) (v := ?_) rfl (by kernel_rfl) (by kernel_rfl) (by kernel_rfl) (N := 10) (by kernel_rfl) (by kernel_rfl) (by kernel_rfl) (fun _ _ _ h => h) (Or.inl ⟨by rfl, ?_⟩) hHeld ?_
  rotate_left 1
  · intro w hSw
    go_simp
    try with_reducible rfl
  show anyK _ _ _ _ _ _ _ _ (Act.put _ (some 40) _) _
  simp only [Act.put, List.setIfInBounds_toArray, List.set_cons_zero, List.set_cons_succ]
  refine anyK_take (i := 7) (v := ?_) rfl (by kernel_rfl) (by kernel_rfl) (by kernel_rfl) (N := 10) (by kernel_rfl) (by kernel_rfl) (by kernel_rfl) (fun _ _ _ h => h) (Or.inl ⟨by rfl, ?_⟩) hHeld ?_
  rotate_left 1
  · intro w hSw
    go_simp
    try with_reducible rfl
  show anyK _ _ _ _ _ _ _ _ (Act.put _ (some 41) _) _
  simp only [Act.put, List.setIfInBounds_toArray, List.set_cons_zero, List.set_cons_succ]
  clear hHeld
  have bX8 := HX5.out.ext he8; have bF8 := HF5.out.ext he8
  have r0 := bX8.x0; have r1 := bX8.x1; have r2 := bX8.x2; have g0 := bX8.f 0; have g1 := bX8.f 1; have g2 := bX8.f 2
  refine anyK_one (i := 8) (by kernel_rfl) rfl (fun Kk hKk => ?_)
  refine stepK_storeC rfl rfl _ _ rfl X tq tb a8 m8 c8 _ _ _ rfl rfl r0 r1 r2 g0 g1 g2 ?_
  have hP1 : Only X w8 (((w8.setCell ⟨X, 0, none⟩ (.int .i64 tq)).setCell ⟨X, 1, none⟩ (.int .i64 tb)).setCell ⟨X, 2, none⟩ (.slice a8 m8 c8)) := (((Only.refl _ _).setCell _ _).setCell _ _).setCell _ _
  have bC9 := (HC5.out.ext he8).kept hP1 (by omega); have bD9 := (HD5.out.ext he8).kept hP1 (by omega)
  refine hKk.out _ _ (fun _ => ⟨⟨bC9.x0, bC9.x1, bC9.x2⟩, bD9.x0, bD9.x1, bD9.x2⟩) ?_
  clear hKk Kk
  simp only [List.setIfInBounds_toArray, List.set_cons_zero, List.set_cons_succ]
  have bF9 := bF8.kept hP1 (by omega)
  have f0 := bF9.x0; have f1 := bF9.x1; have q0 := bF9.f 0; have q1 := bF9.f 1
  refine anyK_one (i := 9) (by kernel_rfl) rfl (fun Kk hKk => ?_)
  refine stepK_storeF rfl rfl _ _ rfl (X + 1) tu tv _ _ rfl rfl f0 f1 q0 q1 ?_
  refine hKk.out _ _ (fun h => Bool.noConfusion (show true = false from h)) ?_
  clear hKk Kk
  simp only [List.setIfInBounds_toArray, List.set_cons_zero, List.set_cons_succ]
  refine anyK_done (by kernel_rfl) ?_ _
  have hP2 := only2 (((w8.setCell ⟨X, 0, none⟩ (.int .i64 tq)).setCell ⟨X, 1, none⟩ (.int .i64 tb)).setCell ⟨X, 2, none⟩ (.slice a8 m8 c8)) (X + 1) (.int .i64 tu) (.int .i64 tv)
  have HC9 := Lib.hid (bC9.kept hP2 (by omega)); have HD9 := Lib.hid (bD9.kept hP2 (by omega))
  have HX9 := Lib.hid ((((bX8.set0 tq).set1 tb).set2 a8 m8 c8).kept hP2 (by omega)); have HF9 := Lib.hid (bF9.put tu tv)
  have HY9 := Lib.hid (((HY5.out.ext he8).kept hP1 (by omega)).kept hP2 (by omega)); have HG9 := Lib.hid (((HG5.out.ext he8).kept hP1 (by omega)).kept hP2 (by omega))
  have HO9 := Lib.hid ((hO8.far bX8.row (by decide) (by decide) hP1).far bF9.row (by decide) (by decide) hP2)
  have HE9 := Lib.hid (ext_only (ext_only (HE5.out.trans he8) hP1 (by omega)) hP2 (by omega))
  clear hP1 hP2 bC9 bD9 bX8 bF8 bF9 hO8 hO7 hO6 hx8 he8 hx7 he7 hx6 he6 hd0 r0 r1 r2 g0 g1 g2 f0 f1 q0 q1 l0 l1 l2 j0 j1 j2 k6 k7 HE5 HC5 HD5 HX5 HF5 HY5 HG5 HThc HTh HCc HCd
  generalize ((((w8.setCell ⟨X, 0, none⟩ (.int .i64 tq)).setCell ⟨X, 1, none⟩ (.int .i64 tb)).setCell ⟨X, 2, none⟩ (.slice a8 m8 c8)).setCell ⟨X + 1, 0, none⟩ (.int .i64 tu)).setCell ⟨X + 1, 1, none⟩ (.int .i64 tv) = V9 at *
  have l0 := HC9.out.x0; have l1 := HC9.out.x1; have l2 := HC9.out.x2; have j0 := HD9.out.x0; have j1 := HD9.out.x1; have j2 := HD9.out.x2
  go_wp2_with fail
  refine (HRt.out V9 HE9.out).mono ?_
  rintro e wa ⟨⟨aa, ma, ca, rfl, hOa⟩, hxa⟩
  clear l0 l1 l2 j0 j1 j2
  have bYa := HY9.out.ext hxa; have bGa := HG9.out.ext hxa
  have r0 := bYa.x0; have r1 := bYa.x1; have r2 := bYa.x2; have g0 := bYa.f 0; have g1 := bYa.f 1; have g2 := bYa.f 2
  have hP1 : Only Y wa (((wa.setCell ⟨Y, 0, none⟩ (.int .i64 tq)).setCell ⟨Y, 1, none⟩ (.int .i64 tb)).setCell ⟨Y, 2, none⟩ (.slice aa ma ca)) := (((Only.refl _ _).setCell _ _).setCell _ _).setCell _ _
  have bGb := bGa.kept hP1 (by omega)
  have f0 := bGa.x0; have f1 := bGa.x1; have q0 := bGa.f 0; have q1 := bGa.f 1
  have hP2 := only2 (((wa.setCell ⟨Y, 0, none⟩ (.int .i64 tq)).setCell ⟨Y, 1, none⟩ (.int .i64 tb)).setCell ⟨Y, 2, none⟩ (.slice aa ma ca)) (Y + 1) (.int .i64 tu) (.int .i64 tv)
  have HXb := Lib.hid (((HX9.out.ext hxa).kept hP1 (by omega)).kept hP2 (by omega)); have HFb := Lib.hid (((HF9.out.ext hxa).kept hP1 (by omega)).kept hP2 (by omega))
  have HYb := Lib.hid ((((bYa.set0 tq).set1 tb).set2 aa ma ca).kept hP2 (by omega)); have HGb := Lib.hid (bGb.put tu tv)
  have HOb := Lib.hid ((hOa.far bYa.row (by decide) (by decide) hP1).far bGb.row (by decide) (by decide) hP2)
  have HOx := Lib.hid (((HO9.out.ext hxa).far bYa.row (by decide) (by decide) hP1).far bGb.row (by decide) (by decide) hP2)
  have HEb := Lib.hid (ext_only (ext_only (HE9.out.trans hxa) hP1 (by omega)) hP2 (by omega))
  clear hP1 hP2 bYa bGa bGb hOa hxa HE9 HC9 HD9 HX9 HF9 HY9 HG9 HO9 HRt
  go_upto_region 7 with fail
  generalize ((((wa.setCell ⟨Y, 0, none⟩ (.int .i64 tq)).setCell ⟨Y, 1, none⟩ (.int .i64 tb)).setCell ⟨Y, 2, none⟩ (.slice aa ma ca)).setCell ⟨Y + 1, 0, none⟩ (.int .i64 tu)).setCell ⟨Y + 1, 1, none⟩ (.int .i64 tv) = Vb at *
  clear r0 r1 r2 g0 g1 g2 f0 f1 q0 q1
  have HAn := Lib.hid (answers_N ⟨tq, tb, tops⟩ _ _ a8 m8 c8 aa ma ca tu tv Vb HOx.out HOb.out)
  simp only at HAn
  have u0 := HXb.out.x0; have u1 := HXb.out.x1; have u2 := HXb.out.x2; have u3 := HFb.out.x0; have u4 := HFb.out.x1; have t0 := HYb.out.x0; have t1 := HYb.out.x1; have t2 := HYb.out.x2; have t3 := HGb.out.x0; have t4 := HGb.out.x1
  go_wp2_with fail
  refine HAn.out.mono ?_
  rintro e wz ⟨rfl, hxz⟩
  have HEz := Lib.hid (HEb.out.trans hxz)
  clear hxz
  go_wp2_with fail
  go_ret
  exact ⟨rfl, HEz.out⟩

end Go.Proofs.YtapolidgocfbjaaDoor
namespace Go.Proofs.YtapolidgocfbjaaDoor
open Go.RowKit Go.ChangeShapes Go.WideShapes Go.Deep

instance : Inhabited Gop := ⟨⟨0, 0, [], 0, 0, []⟩⟩

theorem addr_at (b o t : Nat) : (⟨b, o, none⟩ : Addr).add t = ⟨b, o + t, none⟩ := by
  unfold Addr.add
  by_cases h : t = 0 <;> simp [h]

section
variable {H : Type} {enc : TypeId × Value → H} {W : World}

theorem bytes_int : Tryd.prog.bytesOf 3 = 8 := by kernel_rfl
theorem bytes_op : Tryd.prog.bytesOf 43 = 80 := by kernel_rfl
theorem cells_int : Tryd.prog.cellsOf 3 = 1 := by kernel_rfl
theorem cells_op : Tryd.prog.cellsOf 43 = 6 := by kernel_rfl
theorem cells_ci : Tryd.prog.cellsOf 24 = 3 := by kernel_rfl

theorem open_ints {fuel : Nat} {cs : List Value} {x : DataW H × List MemPlace} (h : DataW.trod enc Tryd.prog W 0 (fun _ => true) true fuel 25 cs = some x) (hz : ∀ k ∈ x.1.weights Tryd.prog 25, k ≤ reachBytes) :
    ∃ (ao : Option Addr) (n cp : Nat) (l : List Int), cs = [.slice ao n cp] ∧ n ≤ cp ∧ cp ≤ 9223372036854775807 ∧ IntsAt W ao n l ∧ l.length * 8 ≤ 140737488355328 := by
  rcases open_slice1 Tryd.underlying25 cells_int h with ⟨rfl, rfl⟩ | ⟨a, len, cap, m, n, V, D, Pl, rfl, _, hl, hm, hmm, rfl, hx⟩
  · exact ⟨none, 0, 0, [], rfl, by omega, by omega, ⟨rfl, Or.inl rfl⟩, by simp⟩
  · have hmc : m = cap := by simpa using hmm
    subst hmc
    obtain ⟨F, hF⟩ := choose_lt (α := Int) (n := m) (p := fun i z => W.cell? (a.add i) = some (.int .i64 z)) (fun i hi => by
      obtain ⟨h1, h2⟩ := hx i hi
      obtain ⟨z, e, _⟩ := DataW.trod_int Tryd.underlying3 h2
      injection e with e
      exact ⟨z, by rw [h1, e]⟩)
    refine ⟨some a, len, m, (List.range len).map F, rfl, hl, hm, ⟨by simp, ?_⟩, ?_⟩
    · by_cases h0 : len = 0
      · exact Or.inl h0
      · obtain ⟨b, o, spot⟩ := a
        have h1 := hF 0 (by omega)
        have hs : spot = none := by simpa [Addr.add] using World.cell?_spot h1
        subst hs
        refine Or.inr ⟨b, o, rfl, World.block_lt_of_cell? W _ h1, fun t ht => ?_⟩
        have := hF t (by omega)
        rw [addr_at] at this
        simpa [List.getD_eq_getElem?_getD, ht] using this
    · have := hz ((len + (m - len)) * Tryd.prog.bytesOf 3) (by simp [DataW.weights, Tryd.underlying25])
      rw [bytes_int] at this
      have hr : reachBytes ≤ 140737488355328 := by decide
      rw [List.length_map, List.length_range]
      omega

set_option maxRecDepth 100000 in
theorem open_op {fuel : Nat} {cs : List Value} {x : DataW H × List MemPlace} (h : DataW.trod enc Tryd.prog W 0 (fun _ => true) true fuel 43 cs = some x) (hz : ∀ k ∈ x.1.weights Tryd.prog 43, k ≤ reachBytes) :
    ∃ (o : Gop) (a1 : Option Addr) (n1 c1 : Nat) (a2 : Option Addr) (n2 c2 : Nat), cs = [.int .i64 o.kind, .int .i64 o.k, .slice a1 n1 c1, .int .i64 o.q, .int .i64 o.bit, .slice a2 n2 c2] ∧ OpL W o a1 n1 c1 a2 n2 c2 ∧ o.ctl.length * 8 ≤ 140737488355328 ∧ o.cnd.length * 8 ≤ 140737488355328 := by
  obtain ⟨xs, n, _, rfl, hl, hlen, hf⟩ := DataW.trod_struct Tryd.underlying43 h
  rw [cells_op] at hl
  match xs, hlen, cs, hl with
  | [y0, y1, y2, y3, y4, y5], _, [v0, v1, v2, v3, v4, v5], _ =>
    have g0 := hf 0 _ rfl
    have g1 := hf 1 _ rfl
    have g2 := hf 2 _ rfl
    have g3 := hf 3 _ rfl
    have g4 := hf 4 _ rfl
    have g5 := hf 5 _ rfl
    simp only [List.getElem?_cons_zero, List.getElem?_cons_succ] at g0 g1 g2 g3 g4 g5
    obtain ⟨k0, e0, _⟩ := DataW.trod_int Tryd.underlying3 g0
    obtain ⟨k1, e1, _⟩ := DataW.trod_int Tryd.underlying3 g1
    obtain ⟨k3, e3, _⟩ := DataW.trod_int Tryd.underlying3 g3
    obtain ⟨k4, e4, _⟩ := DataW.trod_int Tryd.underlying3 g4
    obtain ⟨a1, n1, c1, l1, e2, p2, q2, I2, b2⟩ := open_ints g2 (fun k hk => hz k (by simp [DataW.weights, Tryd.underlying43, DataW.weightsEach, hk]))
    obtain ⟨a2, n2, c2, l2, e5, p5, q5, I5, b5⟩ := open_ints g5 (fun k hk => hz k (by simp [DataW.weights, Tryd.underlying43, DataW.weightsEach, hk]))
    injection e0 with e0; injection e1 with e1; injection e2 with e2; injection e3 with e3; injection e4 with e4; injection e5 with e5
    exact ⟨⟨k0, k1, l1, k3, k4, l2⟩, a1, n1, c1, a2, n2, c2, by rw [e0, e1, e2, e3, e4, e5], ⟨I2, p2, q2, I5, p5, q5⟩, b2, b5⟩

set_option maxRecDepth 100000 in
theorem open_circuit {v : Value} {d : DataW H} {p : List MemPlace} {base : Nat} (hok : Value.okWide Tryd.prog W .any base 24 v) (h : DataW.Trod enc Tryd.prog W 0 (fun _ => true) true 24 v d p) (hz : ∀ k ∈ d.weights Tryd.prog 24, k ≤ reachBytes) :
    ∃ (c : Gci) (ao : Option Addr) (n cp : Nat), v = .agg #[.int .i64 c.qubits, .int .i64 c.bits, .slice ao n cp] ∧ OpsAt W ao n c.ops ∧ n ≤ cp ∧ cp ≤ 9223372036854775807 ∧ n * 80 ≤ 140737488355328 ∧ ∀ g ∈ c.ops, g.ctl.length * 8 ≤ 140737488355328 ∧ g.cnd.length * 8 ≤ 140737488355328 := by
  obtain ⟨fuel, h⟩ := h
  have hv : ∃ cs : Array Value, v = .agg cs := by
    unfold Value.okWide at hok
    rw [Tryd.underlying24] at hok
    obtain ⟨cs, e, _⟩ := hok
    exact ⟨cs, e⟩
  obtain ⟨cs, rfl⟩ := hv
  obtain ⟨xs, n, _, hx0, hl, hlen, hf⟩ := DataW.trod_struct Tryd.underlying24 h
  obtain ⟨cl⟩ := cs
  have hcl : (Value.agg ⟨cl⟩).cells.toList = cl := rfl
  rw [hcl] at hl hf
  rw [cells_ci] at hl
  match xs, hlen, cl, hl with
  | [y0, y1, y2], _, [v0, v1, v2], _ =>
    injection hx0 with hd hp
    subst hd
    have g0 := hf 0 _ rfl
    have g1 := hf 1 _ rfl
    have g2 := hf 2 _ rfl
    simp only [List.getElem?_cons_zero, List.getElem?_cons_succ] at g0 g1 g2
    obtain ⟨qb, e0, _⟩ := DataW.trod_int Tryd.underlying3 g0
    obtain ⟨bi, e1, _⟩ := DataW.trod_int Tryd.underlying3 g1
    injection e0 with e0; injection e1 with e1
    have hz2 : ∀ k ∈ y2.1.weights Tryd.prog 22, k ≤ reachBytes := fun k hk => hz k (by simp [DataW.weights, Tryd.underlying24, DataW.weightsEach, hk])
    rcases open_slice Tryd.underlying22 g2 with ⟨e2, _⟩ | ⟨a, len, cap, m, n', D, Pl, e2, _, hl2, hm2, hmm, hy2, hx⟩
    · injection e2 with e2
      refine ⟨⟨qb, bi, []⟩, none, 0, 0, by rw [e0, e1, e2], ⟨rfl, Or.inl rfl⟩, by omega, by omega, by omega, by simp⟩
    · injection e2 with e2
      have hmc : m = cap := by simpa using hmm
      subst hmc
      rw [cells_op] at hx
      subst hy2
      have hr : reachBytes ≤ 140737488355328 := by decide
      have hb := hz2 ((len + (m - len)) * Tryd.prog.bytesOf 43) (by simp [DataW.weights, Tryd.underlying22])
      rw [bytes_op] at hb
      have hel : ∀ i, i < len → ∀ k ∈ (D i).weights Tryd.prog 43, k ≤ reachBytes := by
        intro i hi k hk
        refine hz2 k ?_
        have hmem : ∀ (l : List (DataW H)) (d : DataW H), d ∈ l → ∀ k ∈ d.weights Tryd.prog 43, k ∈ DataW.weightsAll Tryd.prog 43 l := by
          intro l
          induction l with
          | nil => intro d hd; simp at hd
          | cons a r ih =>
            intro d hd k hk
            rw [DataW.weightsAll, List.mem_append]
            rcases List.mem_cons.1 hd with rfl | hd
            · exact Or.inl hk
            · exact Or.inr (ih d hd k hk)
        have := hmem ((List.range len).map D) (D i) (List.mem_map.2 ⟨i, List.mem_range.2 hi, rfl⟩) k hk
        simp only [DataW.weights, Tryd.underlying22]
        exact List.mem_cons_of_mem _ (List.mem_append_left _ this)
      obtain ⟨b, o, spot⟩ := a
      have hpos : 0 < len → spot = none := fun h0 => by
        obtain ⟨cs', h1, _⟩ := hx 0 (by omega)
        obtain ⟨_, hlen', hc⟩ := World.cells?_some h1
        have h2 := hc 0 (by omega)
        rw [List.getElem?_eq_getElem (by omega)] at h2
        simpa [Addr.add] using World.cell?_spot h2
      obtain ⟨G, hG⟩ := choose_lt (α := Gop) (n := len) (p := fun i g => ∃ (a1 : Option Addr) (n1 c1 : Nat) (a2 : Option Addr) (n2 c2 : Nat), W.cell? ⟨b, o + i * 6, none⟩ = some (.int .i64 g.kind) ∧ W.cell? ⟨b, o + i * 6 + 1, none⟩ = some (.int .i64 g.k) ∧ W.cell? ⟨b, o + i * 6 + 2, none⟩ = some (.slice a1 n1 c1) ∧ W.cell? ⟨b, o + i * 6 + 3, none⟩ = some (.int .i64 g.q) ∧ W.cell? ⟨b, o + i * 6 + 4, none⟩ = some (.int .i64 g.bit) ∧ W.cell? ⟨b, o + i * 6 + 5, none⟩ = some (.slice a2 n2 c2) ∧ OpL W g a1 n1 c1 a2 n2 c2 ∧ g.ctl.length * 8 ≤ 140737488355328 ∧ g.cnd.length * 8 ≤ 140737488355328) (fun i hi => by
        obtain rfl := hpos (by omega)
        obtain ⟨cs', h1, h2⟩ := hx i (by omega)
        obtain ⟨_, _, hc⟩ := World.cells?_some h1
        obtain ⟨g, a1, n1, c1, a2, n2, c2, rfl, hL, b1, b2⟩ := open_op h2 (hel i hi)
        have hc' : ∀ j, j < 6 → W.cell? ⟨b, o + i * 6 + j, none⟩ = ([.int .i64 g.kind, .int .i64 g.k, .slice a1 n1 c1, .int .i64 g.q, .int .i64 g.bit, .slice a2 n2 c2] : List Value)[j]? := fun j hj => by have := hc j hj; rw [add_add, addr_at, ← Nat.add_assoc] at this; exact this
        exact ⟨g, a1, n1, c1, a2, n2, c2, hc' 0 (by omega), hc' 1 (by omega), hc' 2 (by omega), hc' 3 (by omega), hc' 4 (by omega), hc' 5 (by omega), hL, b1, b2⟩)
      refine ⟨⟨qb, bi, (List.range len).map G⟩, some ⟨b, o, spot⟩, len, m, by rw [e0, e1, e2], ⟨by simp, ?_⟩, hl2, hm2, by omega, ?_⟩
      · by_cases h0 : len = 0
        · exact Or.inl h0
        · obtain rfl := hpos (by omega)
          obtain ⟨_, _, _, _, _, _, hc0, _⟩ := hG 0 (by omega)
          refine Or.inr ⟨b, o, rfl, World.block_lt_of_cell? W _ hc0, fun t g hg => ?_⟩
          have ht : t < len := by
            have := (List.getElem?_eq_some_iff.1 hg).1
            simpa using this
          have hge : g = G t := by
            have := hg
            simp [ht] at this
            exact this.symm
          subst hge
          obtain ⟨a1, n1, c1, a2, n2, c2, x0, x1, x2, x3, x4, x5, hL, _, _⟩ := hG t ht
          exact ⟨a1, n1, c1, a2, n2, c2, x0, x1, x2, x3, x4, x5, hL⟩
      · intro g hg
        simp only [List.mem_map, List.mem_range] at hg
        obtain ⟨i, hi, rfl⟩ := hg
        obtain ⟨_, _, _, _, _, _, _, _, _, _, _, _, _, b1, b2⟩ := hG i hi
        exact ⟨b1, b2⟩
end

end Go.Proofs.YtapolidgocfbjaaDoor
namespace Go.Proofs.YtapolidgocfbjaaDoor
open Go.RowKit Go.ChangeShapes Go.WideShapes

set_option maxRecDepth 100000 in
theorem shape_row {H : Type} {enc : TypeId × Value → H} {W : World} {base : Nat} {sp : Nat → Bool} {held : Bool} {fuel : Nat} {cs : List Value} {s : List UInt8} {a b c d : Bool} {p : List MemPlace}
    (h : DataW.trod enc Tryd.prog W base sp held fuel 77 cs = some (.agg [.lit (.string s), .lit (.bool a), .lit (.bool b), .lit (.bool c), .lit (.bool d)], p)) :
    cs = [.string ⟨s.toArray⟩, .bool a, .bool b, .bool c, .bool d] := by
  obtain ⟨xs, n, _, hx, hl, hlen, hf⟩ := DataW.trod_struct Tryd.underlying77 h
  have hc : Tryd.prog.cellsOf 77 = 5 := by kernel_rfl
  rw [hc] at hl
  match xs, hlen, cs, hl with
  | [y0, y1, y2, y3, y4], _, [v0, v1, v2, v3, v4], _ =>
    have g0 := hf 0 _ rfl
    have g1 := hf 1 _ rfl
    have g2 := hf 2 _ rfl
    have g3 := hf 3 _ rfl
    have g4 := hf 4 _ rfl
    simp only [List.getElem?_cons_zero, List.getElem?_cons_succ] at g0 g1 g2 g3 g4
    obtain ⟨s0, e0, z0, _⟩ := DataW.trod_string Tryd.underlying9 g0
    obtain ⟨b1, e1, z1⟩ := DataW.trod_bool Tryd.underlying4 g1
    obtain ⟨b2, e2, z2⟩ := DataW.trod_bool Tryd.underlying4 g2
    obtain ⟨b3, e3, z3⟩ := DataW.trod_bool Tryd.underlying4 g3
    obtain ⟨b4, e4, z4⟩ := DataW.trod_bool Tryd.underlying4 g4
    subst z0; subst z1; subst z2; subst z3; subst z4
    injection hx with hd _
    simp only [List.map_cons, List.map_nil, DataW.agg.injEq, List.cons.injEq, DataW.lit.injEq, Lit.string.injEq, Lit.bool.injEq, and_true] at hd
    obtain ⟨rfl, rfl, rfl, rfl, rfl⟩ := hd
    injection e0 with e0; injection e1 with e1; injection e2 with e2; injection e3 with e3; injection e4 with e4
    rw [e0, e1, e2, e3, e4]

set_option maxRecDepth 100000 in
theorem shp_of_laid {W : World} (h : laidMet Tryd.prog [("qloom/circ.shapes", Rows.laid_qloom_circ_shapes)] W) : Shp W := by
  obtain ⟨ps, ⟨g', t', cs, fuel, p, q, hg', ht', hvar, hd, _, _⟩, _⟩ := h
  obtain rfl := Option.some.inj ((show Tryd.prog.globalNamed "qloom/circ.shapes" = some 0 by kernel_rfl).symm.trans hg')
  obtain rfl := Option.some.inj ((show (Tryd.prog.globals[0]?).map (·.type) = some 78 by kernel_rfl).symm.trans ht')
  obtain ⟨xs, m, _, hx, hl, hlen, hf⟩ := DataW.trod_array Tryd.underlying78 hd
  have hc : Tryd.prog.cellsOf 77 = 5 := by kernel_rfl
  rw [hc] at hf
  match xs, hlen with
  | [y0, y1, y2, y3, y4, y5, y6], _ =>
    injection hx with hx _
    unfold Rows.laid_qloom_circ_shapes at hx
    simp only [List.map_cons, List.map_nil, DataW.agg.injEq, List.cons.injEq, and_true] at hx
    obtain ⟨_, x1, x2, x3, x4, x5, x6⟩ := hx
    have key : ∀ (k : Nat) (y : DataW Unit × List MemPlace) (s : List UInt8) (a b c d : Bool), k < 7 → [y0, y1, y2, y3, y4, y5, y6][k]? = some y → .agg [.lit (.string s), .lit (.bool a), .lit (.bool b), .lit (.bool c), .lit (.bool d)] = y.1 →
        W.cell? ⟨0, k * 5, none⟩ = some (.string ⟨s.toArray⟩) ∧ W.cell? ⟨0, k * 5 + 1, none⟩ = some (.bool a) ∧ W.cell? ⟨0, k * 5 + 2, none⟩ = some (.bool b) ∧ W.cell? ⟨0, k * 5 + 3, none⟩ = some (.bool c) ∧ W.cell? ⟨0, k * 5 + 4, none⟩ = some (.bool d) := by
      intro k y s a b c d hk hy he
      have h1 := hf k hk
      rw [hy] at h1
      obtain ⟨yd, yp⟩ := y
      simp only at he
      subst he
      have h2 := shape_row h1
      have h3 : ∀ j, j < 5 → W.cell? ⟨0, k * 5 + j, none⟩ = ([.string ⟨s.toArray⟩, .bool a, .bool b, .bool c, .bool d] : List Value)[j]? := by
        intro j hj
        rw [World.var?_cell hg' hvar, ← h2, List.getElem?_take, if_pos hj, List.getElem?_drop, Array.getElem?_toList]
      exact ⟨h3 0 (by omega), h3 1 (by omega), h3 2 (by omega), h3 3 (by omega), h3 4 (by omega)⟩
    intro k h1 h6
    have hk : k = 1 ∨ k = 2 ∨ k = 3 ∨ k = 4 ∨ k = 5 ∨ k = 6 := by omega
    rcases hk with rfl | rfl | rfl | rfl | rfl | rfl
    · exact key 1 y1 _ _ _ _ _ (by omega) rfl x1
    · exact key 2 y2 _ _ _ _ _ (by omega) rfl x2
    · exact key 3 y3 _ _ _ _ _ (by omega) rfl x3
    · exact key 4 y4 _ _ _ _ _ (by omega) rfl x4
    · exact key 5 y5 _ _ _ _ _ (by omega) rfl x5
    · exact key 6 y6 _ _ _ _ _ (by omega) rfl x6

/-- What lay there is as it was: what is asked behind the call. -/
theorem post_kept {H : Type} {enc : TypeId × Value → H} {P : Program} {f : Func} {s : ChangeSpec} {apart fresh handsOn again : Bool} {W W' : World} {args : Array Value} {v : Value} {ds gs : List (DataW H)} {ps : List MemPlace}
    (hW : DataW.Whole enc P f.params.toList s.vars apart W args.toList ds gs ps)
    (hres : ∀ (b : Nat) (sp : Nat → Bool) (hd : Bool), DataW.TrodAll enc P W' b sp hd f.resultTypes.toList (v.resultList f.resultTypes.size) (s.fn H (ds ++ gs)).results [])
    (hargs : ∀ sp : Nat → Bool, (∀ x ∈ ps, sp x.block = true) → DataW.TrodAll enc P W' 0 sp true f.params.toList args.toList (s.fn H (ds ++ gs)).args ps)
    (hvars : ∀ sp : Nat → Bool, DataW.TrodVars enc P W' sp s.vars (s.fn H (ds ++ gs)).vars [])
    (hb : Ext W W')
    (hok : ∀ (j : Nat) (t : TypeId) (r : Value), f.resultTypes[j]? = some t → (v.resultList f.resultTypes.size)[j]? = some r → Value.okWide P W' .any 0 t r) :
    s.post enc P f apart fresh handsOn again W args v W' := by
  have hlt := hW.lt
  have hold : ∀ x ∈ ps, decide (x.block < W.heap.size) = true := fun x hx => by simpa using hlt x hx
  have hall : ∀ x ∈ ps, (fun _ : Nat => true) x.block = true := fun _ _ => rfl
  have hn : W.noneFrozen ps ∧ (apart = true → ps.Nodup) := by
    obtain ⟨_, _, _, _, rfl, h1, h2⟩ := hW
    exact ⟨h1, h2⟩
  refine ⟨ds, gs, ps, [], ps, [], hW, hres _ _ _, hargs _ hold, hvars _, Below.frame hb _, fun _ => ?_⟩
  refine ⟨hok, _, _, ([] ++ ps) ++ [], ⟨[] ++ ps, [], trodAll_append (hargs (fun _ => true) hall) (hres _ _ _), hvars _, rfl, ?_, ?_⟩, ?_⟩
  · intro b off hp
    have hp' : MemPlace.cell b off ∈ ps := by simpa using hp
    rw [Below.frozen hb (p := ⟨b, off, none⟩) (hlt _ hp')]
    exact hn.1 b off hp'
  · intro ha
    simpa using hn.2 ha
  · intro x hx _
    simpa using hx

end Go.Proofs.YtapolidgocfbjaaDoor
