/-
  The reference's Move. The example of a circuit, and its text. The reference's SameInts and SameCircuit, of alike lists and circuits. The law's own comparison of two circuits that are answered. CircJoins: its walk.
-/
import Derived.Test.YtapolidgocfbjaaDoorProg
import Derived.Test.YtapolidgocfbjaaDoorRows
import Derived.BigQuiet
import Derived.Deep.AppendLies
import Derived.Deep.Cut
import Derived.Deep.CutRange
import Derived.Deep.LoopGhost
import Derived.Deep.QuietTactic
import Derived.Deep.RegionHeld3
import Derived.Defers
import Derived.Laws.AppendOwnNone
import Derived.Laws.Bits64b
import Derived.Laws.Concat
import Derived.Laws.CopyOwn
import Derived.Laws.IdiomStrings
import Derived.Laws.ResultCell
import Derived.Lib.AppendStr
import Derived.Lib.AppendZeros
import Derived.Lib.AppendZerosOnto
import Derived.Lib.BitFns
import Derived.Lib.Hide
import Derived.Lib.ItoaMem
import Derived.Lib.ItoaNum
import Derived.Lib.Strings
import Derived.Maps.AppendAt
import Derived.OwnWalk
import Derived.Recover
import Derived.Shelf.LaysM
import Derived.Shelf.Strconv.Itoa0
import Derived.Shelf.Strconv.Itoa1
import Derived.Shelf.Strconv.Itoa2
import Derived.Shelf.Strconv.Itoa3
import Derived.Shelf.Strings.Builder1
import Derived.Shelf.Strings.BuilderF
import Derived.Shelf.Strings.BuilderK
import Derived.WalkKit
import Derived.WalkLawsBesides
import Derived.WalkSpells
import Derived.Test.YtapolidgocfbjaaDoorS00Ce
import Derived.Test.YtapolidgocfbjaaDoorS01Cj
import Derived.Test.YtapolidgocfbjaaDoorShelf
import Derived.Test.YtapolidgocfbjaaDoorS03Cq
import Derived.Test.YtapolidgocfbjaaDoorS04Jc
import Derived.Test.YtapolidgocfbjaaDoorS05Gb
import Derived.Test.YtapolidgocfbjaaDoorS06Ke
import Derived.Test.YtapolidgocfbjaaDoorS07Kf
import Derived.Test.YtapolidgocfbjaaDoorS08Kd
import Derived.Test.YtapolidgocfbjaaDoorS09Km
import Derived.Test.YtapolidgocfbjaaDoorS10Ku
import Derived.Test.YtapolidgocfbjaaDoorS11Kv
namespace Go.Proofs.YtapolidgocfbjaaDoor
open Go.RowKit

theorem set_same {L : List Gop} {i : Nat} {g : Gop} (h : L[i]? = some g) : L.set i g = L := by
  apply List.ext_getElem?
  intro t
  rw [List.getElem?_set]
  split
  · next e =>
    subst e
    rw [if_pos (List.getElem?_eq_some_iff.1 h).1, h]
  · rfl
theorem rowF_q {w w' : World} {base : Nat} {cs : Array Value} {L : List Gop} {n i : Nat} {gx : Gop} (q' : Int) (hl : L.length = n) (hi : i < n) (hsz : n * 6 ≤ cs.size) (h : RowF w base (fun p => cs[p]?) L) (hg : L[i]? = some gx)
    (hk : ∀ g a1 n1 c1 a2 n2 c2, OpN w base g a1 n1 c1 a2 n2 c2 → OpN w' base g a1 n1 c1 a2 n2 c2) : RowF w' base (fun p => (cs.setIfInBounds (i * 6 + 3) (.int .i64 q'))[p]?) (L.set i ⟨gx.kind, gx.k, gx.ctl, q', gx.bit, gx.cnd⟩) := by
  intro t x hx
  have ht : t < n := by have := (List.getElem?_eq_some_iff.1 hx).1; rw [List.length_set, hl] at this; exact this
  by_cases e : t = i
  · subst e
    rw [List.getElem?_set_self (by omega)] at hx
    injection hx with hx
    subst hx
    obtain ⟨x1, x2, x3, x4, x5, x6, y0, y1, y2, y3, y4, y5, y6⟩ := h t gx hg
    have ho := hk _ _ _ _ _ _ _ y6
    refine ⟨x1, x2, x3, x4, x5, x6, ?_, ?_, ?_, ?_, ?_, ?_, ⟨ho.i1, ho.i2, ho.ne⟩⟩
    · show (cs.setIfInBounds _ _)[_]? = _; rw [Array.getElem?_setIfInBounds, if_neg (by omega)]; exact y0
    · show (cs.setIfInBounds _ _)[_]? = _; rw [Array.getElem?_setIfInBounds, if_neg (by omega)]; exact y1
    · show (cs.setIfInBounds _ _)[_]? = _; rw [Array.getElem?_setIfInBounds, if_neg (by omega)]; exact y2
    · show (cs.setIfInBounds _ _)[_]? = _; rw [Array.getElem?_setIfInBounds, if_pos rfl, if_pos (by omega)]
    · show (cs.setIfInBounds _ _)[_]? = _; rw [Array.getElem?_setIfInBounds, if_neg (by omega)]; exact y4
    · show (cs.setIfInBounds _ _)[_]? = _; rw [Array.getElem?_setIfInBounds, if_neg (by omega)]; exact y5
  · rw [List.getElem?_set_ne (fun h => e h.symm)] at hx
    obtain ⟨x1, x2, x3, x4, x5, x6, y0, y1, y2, y3, y4, y5, y6⟩ := h t x hx
    refine ⟨x1, x2, x3, x4, x5, x6, ?_, ?_, ?_, ?_, ?_, ?_, hk _ _ _ _ _ _ _ y6⟩
    · show (cs.setIfInBounds _ _)[_]? = _; rw [Array.getElem?_setIfInBounds, if_neg (by omega)]; exact y0
    · show (cs.setIfInBounds _ _)[_]? = _; rw [Array.getElem?_setIfInBounds, if_neg (by omega)]; exact y1
    · show (cs.setIfInBounds _ _)[_]? = _; rw [Array.getElem?_setIfInBounds, if_neg (by omega)]; exact y2
    · show (cs.setIfInBounds _ _)[_]? = _; rw [Array.getElem?_setIfInBounds, if_neg (by omega)]; exact y3
    · show (cs.setIfInBounds _ _)[_]? = _; rw [Array.getElem?_setIfInBounds, if_neg (by omega)]; exact y4
    · show (cs.setIfInBounds _ _)[_]? = _; rw [Array.getElem?_setIfInBounds, if_neg (by omega)]; exact y5

set_option maxHeartbeats 8000000 in
set_option maxRecDepth 100000 in
theorem RMove_U (c : Gci) (ao : Option Addr) (n cp : Nat) (tl : List Int) (ta : Option Addr) (tn tc : Nat) (m : Int) (w : World) (h : OpsAt w ao n c.ops) (hn : n ≤ cp) (hcp : cp ≤ 9223372036854775807) (ht : IntsAt w ta tn tl) (htc : tn ≤ tc) (htm : tc ≤ 9223372036854775807) :
    Calls Tryd.prog 14 #[.agg #[.int .i64 c.qubits, .int .i64 c.bits, .slice ao n cp], .slice ta tn tc, .int .i64 m] w fun e w' => Ans w w' e (movM c tl m) ∧ Ext w w' := by
  have hl : c.ops.length = n := h.1
  have hlt : tl.length = tn := ht.1
  obtain ⟨FC, hFC⟩ : ∃ F, chk c = F := ⟨_, rfl⟩
  obtain ⟨R, hR⟩ : ∃ R, movM c tl m = R := ⟨_, rfl⟩
  have hfit : FC.1 = 0 → n ≤ 4096 ∧ (1 ≤ c.qubits ∧ c.qubits ≤ 12) ∧ ∀ g ∈ c.ops, (g.ctl.length ≤ 1000 ∧ g.cnd.length ≤ 1000) ∧ 1 ≤ g.kind ∧ g.kind ≤ 6 ∧ (¬ g.kind = 1 → 0 ≤ g.q ∧ g.q < c.qubits) ∧ (∀ x ∈ g.ctl, 0 ≤ x ∧ x < c.qubits) := fun h => by
    rw [← hFC] at h
    obtain ⟨_, h1, h2, h3, h4, h5, h6⟩ := chk_zero h
    refine ⟨by omega, ⟨h1, h2⟩, fun g hg => ?_⟩
    have f := prFit_of_code h2 h3 h4 (h6 g hg)
    exact ⟨⟨Nat.le_trans f.few (by decide), Nat.le_trans f.cfew (by decide)⟩, (opCode_kind (h6 g hg)).1, (opCode_kind (h6 g hg)).2, fun hk => q_below (h6 g hg) hk, (fit_of_code h2 h3 h4 (h6 g hg)).2.2.2⟩
  have hR1 : FC.1 ≠ 0 → R = (FC, noC) := fun hh => by
    rw [← hR]; exact movM_no (u := FC.1) (v := FC.2) (by unfold movF; rw [hFC, if_pos hh]) hh
  have hR2 : FC.1 = 0 → (m < 1 ∨ 12 < m) → R = ((6, 0), noC) := fun h1 h2 => by
    rw [← hR]; exact movM_no (by unfold movF; rw [hFC, if_neg (by simp [h1]), if_pos h2]) (by decide)
  have hR3 : FC.1 = 0 → ¬ (m < 1 ∨ 12 < m) → (tn : Int) ≠ c.qubits → R = ((17, 0), noC) := fun h1 h2 h3 => by
    rw [← hR]; exact movM_no (by unfold movF; rw [hFC, if_neg (by simp [h1]), if_neg h2, hlt, if_pos h3]) (by decide)
  have hR4 : FC.1 = 0 → ¬ (m < 1 ∨ 12 < m) → (tn : Int) = c.qubits → ∀ t : Int, mpF m tl 0 tl = (17, t) → R = ((17, t), noC) := fun h1 h2 h3 t ht => by
    rw [← hR]; exact movM_no (by unfold movF; rw [hFC, if_neg (by simp [h1]), if_neg h2, hlt, if_neg (by simp [h3]), ht]) (by decide)
  have hR5 : FC.1 = 0 → ¬ (m < 1 ∨ 12 < m) → (tn : Int) = c.qubits → mpF m tl 0 tl = (0, 0) → R = ((0, 0), ⟨m, c.bits, c.ops.map (movO tl)⟩) := fun h1 h2 h3 ht => by
    rw [← hR]; exact movM_yes (by unfold movF; rw [hFC, if_neg (by simp [h1]), if_neg h2, hlt, if_neg (by simp [h3]), ht])
  rw [hR]
  clear hR
  obtain ⟨qb, bi, ops⟩ := c
  obtain ⟨uc, vc⟩ := FC
  simp only at hfit hl h hR1 hR2 hR3 hR4 hR5 ⊢
  obtain ⟨H, hH⟩ : ∃ H, w.heap.size = H := ⟨_, rfl⟩
  obtain ⟨A1, hA1⟩ : ∃ A1, w.alloc (.cells #[.int .i64 qb, .int .i64 bi, .slice ao n cp] 24) = A1 := ⟨_, rfl⟩
  obtain ⟨A2, hA2⟩ : ∃ A2, A1.alloc (.cells #[.int .i64 0, .int .i64 0, .slice none 0 0] 24) = A2 := ⟨_, rfl⟩
  obtain ⟨A3, hA3⟩ : ∃ A3, A2.alloc (.cells #[.int .i64 0, .int .i64 0] 28) = A3 := ⟨_, rfl⟩
  have s1 : A1.heap.size = H + 1 := by rw [← hA1, ← hH]; simp
  have s2 : A2.heap.size = H + 2 := by rw [← hA2]; simp; omega
  have s3 : A3.heap.size = H + 3 := by rw [← hA3]; simp; omega
  have x1 : Ext w A1 := by rw [← hA1]; exact ext_al _ _
  have x2 : Ext A1 A2 := by rw [← hA2]; exact ext_al _ _
  have x3 : Ext A2 A3 := by rw [← hA3]; exact ext_al _ _
  have bC : CiB A3 H qb bi ao n cp := by
    have : CiB A1 H qb bi ao n cp := by rw [← hA1, ← hH]; exact ⟨heap_alloc_new w _⟩
    exact (this.ext x2).ext x3
  have bR : CiB A3 (H + 1) 0 0 none 0 0 := by
    have : CiB A2 (H + 1) 0 0 none 0 0 := by rw [← hA2, ← s1]; exact ⟨heap_alloc_new A1 _⟩
    exact this.ext x3
  have bF : FtB A3 (H + 2) 0 0 := by rw [← hA3, ← s2]; exact ⟨heap_alloc_new A2 _⟩
  have E0 : Ext w A3 := (x1.trans x2).trans x3
  have hA : ((w.alloc (.cells #[.int .i64 qb, .int .i64 bi, .slice ao n cp] 24)).alloc (.cells #[.int .i64 0, .int .i64 0, .slice none 0 0] 24)).alloc (.cells #[.int .i64 0, .int .i64 0] 28) = A3 := by rw [hA1, hA2, hA3]
  have HK := Lib.hid (RCheck_any ⟨qb, bi, ops⟩ ao n cp A3 (h.ext E0) hn hcp)
  rw [hFC] at HK
  simp only at HK
  have hvc : uc = 0 → vc = 0 := fun hh => by
    have h1 : (chk ⟨qb, bi, ops⟩).1 = 0 := by rw [hFC]; exact hh
    have h2 := (chk_zero h1).1
    rw [hFC] at h2
    injection h2
  have m0 := bC.x0; have m1 := bC.x1; have m2 := bC.x2
  rw [← hA] at m0 m1 m2
  have HA := Lib.hid hA; have HE0 := Lib.hid E0; have HC := Lib.hid bC; have HR := Lib.hid bR; have HFt := Lib.hid bF
  have Hops := Lib.hid h; have Hfit := Lib.hid hfit; have Hl := Lib.hid hl; have Hs3 := Lib.hid s3; have HhH := Lib.hid hH; have Hto := Lib.hid ht; have Hlt := Lib.hid hlt; have Hvc := Lib.hid hvc
  have HR1 := Lib.hid hR1; have HR2 := Lib.hid hR2; have HR3 := Lib.hid hR3; have HR4 := Lib.hid hR4; have HR5 := Lib.hid hR5
  clear h E0 bC bR bF x1 x2 x3 s1 s2 s3 hA1 hA2 hA3 hA hfit hl hFC hR1 hR2 hR3 hR4 hR5 ht hlt hvc
  go_enter Tryd.func14, Tryd.ntmps14
  go_wp2_with fail
  rw [HA.out]
  refine HK.out.mono ?_
  rintro e w1 ⟨rfl, hx1⟩
  have Ef := ext_al w1 (.cells #[.int .i64 uc, .int .i64 vc] 28)
  have bf1 : FtB (w1.alloc (.cells #[.int .i64 uc, .int .i64 vc] 28)) w1.heap.size uc vc := ⟨heap_alloc_new w1 _⟩
  have hX := hx1.trans Ef
  have HbC := Lib.hid (HC.out.ext hX); have HbR := Lib.hid (HR.out.ext hX); have HbF := Lib.hid (HFt.out.ext hX); have Hbf := Lib.hid bf1; have HbE := Lib.hid (HE0.out.trans hX)
  have d0 := bf1.x0
  have Hlo := Lib.hid (show H + 3 ≤ w1.heap.size by have h1 := hx1.size; have h2 := Hs3.out; omega)
  clear hx1 Ef bf1 hX HK HC HR HFt HE0 m0 m1 m2
  go_upto_region 2 with fail
  generalize w1.alloc (.cells #[.int .i64 uc, .int .i64 vc] 28) = W1 at *
  obtain ⟨Fb, hFb⟩ : ∃ y, w1.heap.size = y := ⟨_, rfl⟩
  rw [hFb] at Hlo Hbf d0 ⊢
  have hlo := Hlo.out
  have nF1 : Fb ≠ H + 1 := by omega
  have nF2 : Fb ≠ H + 2 := by omega
  have nF0 : H ≠ Fb := by omega
  clear hFb hlo
  have HwF := Lib.hid (show w.heap.size ≤ Fb by have := Hlo.out; omega)
  obtain ⟨b1, hb1⟩ : ∃ y, decide (uc = 0 ∧ (m < 1 ∨ 12 < m)) = y := ⟨_, rfl⟩
  have Hb1 := Lib.hid hb1
  clear hb1
  go_cut [25] from 15 to 25 (fun s25 wx => s25 = .bool b1 ∧ wx = W1)
  case first =>
    by_cases hu : uc = 0
    · have nu : (uc == 0) = true := bt' hu
      by_cases h1 : m < 1
      · have e1 : decide (m < 1) = true := dt h1
        have HF := Lib.hid (show b1 = true by rw [← Hb1.out]; exact dt ⟨hu, Or.inl h1⟩)
        clear hu
        go_wp2_with fail
        go_meet
        exact ⟨by rw [HF.out], rfl⟩
      · have e1 : decide (m < 1) = false := df h1
        by_cases h2 : 12 < m
        · have e2 : decide (12 < m) = true := dt h2
          have HF := Lib.hid (show b1 = true by rw [← Hb1.out]; exact dt ⟨hu, Or.inr h2⟩)
          clear hu
          go_wp2_with fail
          go_meet
          exact ⟨by rw [HF.out], rfl⟩
        · have e2 : decide (12 < m) = false := df h2
          have HF := Lib.hid (show b1 = false by rw [← Hb1.out]; exact df (by omega))
          clear hu
          go_wp2_with fail
          go_meet
          exact ⟨by rw [HF.out], rfl⟩
    · have nu : (uc == 0) = false := bf hu
      have HF := Lib.hid (show b1 = false by rw [← Hb1.out]; exact df (fun hh => hu hh.1))
      clear hu
      go_wp2_with fail
      go_meet
      exact ⟨by rw [HF.out], rfl⟩
  case rest =>
  obtain ⟨rfl, rfl⟩ := hcut
  clear d0
  go_upto_if 25 with fail
  go_cut [] from 25 to 26 (fun wx => ∃ u v : Int, FtB wx Fb u v ∧ CiB wx H qb bi ao n cp ∧ CiB wx (H + 1) 0 0 none 0 0 ∧ FtB wx (H + 2) 0 0 ∧ Ext w wx ∧ (u ≠ 0 → R = ((u, v), noC)) ∧ (u = 0 → v = 0 ∧ uc = 0 ∧ ¬ (m < 1 ∨ 12 < m)))
  case first =>
    cases b1 with
    | true =>
      go_wp2_with fail
      refine (rfault_any 6 0 wc).mono ?_
      rintro e w2 ⟨rfl, hx2⟩
      have hf2 := Hbf.out.ext hx2
      have p0 := hf2.x0; have p1 := hf2.x1; have p2 := hf2.f 0; have p3 := hf2.f 1
      have hOn := only2 w2 Fb (.int .i64 6) (.int .i64 0)
      have H1 := Lib.hid (hf2.put 6 0); have H2 := Lib.hid ((HbC.out.ext hx2).kept hOn nF0); have H3 := Lib.hid ((HbR.out.ext hx2).kept hOn nF1.symm); have H4 := Lib.hid ((HbF.out.ext hx2).kept hOn nF2.symm); have H5 := Lib.hid (ext_only (HbE.out.trans hx2) hOn HwF.out)
      clear hx2 hf2 hOn
      go_wp2_with fail
      go_meet
      have hb := of_decide_eq_true Hb1.out
      exact ⟨6, 0, H1.out, H2.out, H3.out, H4.out, H5.out, fun _ => HR2.out hb.1 hb.2, fun h => by omega⟩
    | false =>
      go_wp2_with fail
      go_meet
      have hb := of_decide_eq_false Hb1.out
      exact ⟨uc, vc, Hbf.out, HbC.out, HbR.out, HbF.out, HbE.out, fun h => HR1.out h, fun h => ⟨Hvc.out h, h, fun hh => hb ⟨h, hh⟩⟩⟩
  case rest =>
  obtain ⟨u1, v1, g1, g2, g3, g4, g5, g6, g7⟩ := hcut
  clear HbC HbR HbF Hbf HbE Hb1
  have HbC := Lib.hid g2; have HbR := Lib.hid g3; have HbF := Lib.hid g4; have Hbf := Lib.hid g1; have HbE := Lib.hid g5; have Hu1 := Lib.hid g6; have Hu1z := Lib.hid g7
  have d0 := g1.x0; have l0 := g2.x0
  clear g1 g2 g3 g4 g5 g6 g7
  obtain ⟨W2, rfl⟩ : ∃ W2 : World, W2 = wc := ⟨_, rfl⟩
  obtain ⟨b2, hb2⟩ : ∃ y, decide (u1 = 0 ∧ (tn : Int) ≠ qb) = y := ⟨_, rfl⟩
  have Hb2 := Lib.hid hb2
  clear hb2
  go_upto_region 4 with fail
  go_cut [36] from 27 to 36 (fun s36 wx => s36 = .bool b2 ∧ wx = W2)
  case first =>
    by_cases hu : u1 = 0
    · have nu : (u1 == 0) = true := bt' hu
      by_cases h1 : (tn : Int) = qb
      · have e1 := ne_f h1; have e2 := eq_t h1
        have HF := Lib.hid (show b2 = false by rw [← Hb2.out]; exact df (fun hh => hh.2 h1))
        clear h1 hu
        go_wp2_with fail
        go_meet
        exact ⟨by rw [HF.out], rfl⟩
      · have e1 := nt' h1; have e2 := bf' h1
        have HF := Lib.hid (show b2 = true by rw [← Hb2.out]; exact dt ⟨hu, h1⟩)
        clear h1 hu
        go_wp2_with fail
        go_meet
        exact ⟨by rw [HF.out], rfl⟩
    · have nu : (u1 == 0) = false := bf hu
      have HF := Lib.hid (show b2 = false by rw [← Hb2.out]; exact df (fun hh => hu hh.1))
      clear hu
      go_wp2_with fail
      go_meet
      exact ⟨by rw [HF.out], rfl⟩
  case rest =>
  obtain ⟨rfl, rfl⟩ := hcut
  clear d0 l0
  go_upto_if 36 with fail
  go_cut [] from 36 to 37 (fun wx => ∃ u v : Int, FtB wx Fb u v ∧ CiB wx H qb bi ao n cp ∧ CiB wx (H + 1) 0 0 none 0 0 ∧ FtB wx (H + 2) 0 0 ∧ Ext w wx ∧ (u ≠ 0 → R = ((u, v), noC)) ∧ (u = 0 → v = 0 ∧ uc = 0 ∧ ¬ (m < 1 ∨ 12 < m) ∧ (tn : Int) = qb))
  case first =>
    cases b2 with
    | true =>
      go_wp2_with fail
      refine (rfault_any 17 0 wc).mono ?_
      rintro e w2 ⟨rfl, hx2⟩
      have hf2 := Hbf.out.ext hx2
      have p0 := hf2.x0; have p1 := hf2.x1; have p2 := hf2.f 0; have p3 := hf2.f 1
      have hOn := only2 w2 Fb (.int .i64 17) (.int .i64 0)
      have H1 := Lib.hid (hf2.put 17 0); have H2 := Lib.hid ((HbC.out.ext hx2).kept hOn nF0); have H3 := Lib.hid ((HbR.out.ext hx2).kept hOn nF1.symm); have H4 := Lib.hid ((HbF.out.ext hx2).kept hOn nF2.symm); have H5 := Lib.hid (ext_only (HbE.out.trans hx2) hOn HwF.out)
      clear hx2 hf2 hOn
      go_wp2_with fail
      go_meet
      have hb := of_decide_eq_true Hb2.out
      have hz := Hu1z.out hb.1
      exact ⟨17, 0, H1.out, H2.out, H3.out, H4.out, H5.out, fun _ => HR3.out hz.2.1 (by have := hz.2.2; omega) hb.2, fun h => by omega⟩
    | false =>
      go_wp2_with fail
      go_meet
      have hb := of_decide_eq_false Hb2.out
      exact ⟨u1, v1, Hbf.out, HbC.out, HbR.out, HbF.out, HbE.out, fun h => Hu1.out h, fun h => by
        have hz := Hu1z.out h
        exact ⟨hz.1, hz.2.1, by have := hz.2.2; omega, Decidable.byContradiction fun hh => hb ⟨h, hh⟩⟩⟩
  case rest =>
  obtain ⟨u2, v2, g1, g2, g3, g4, g5, g6, g7⟩ := hcut
  clear HbC HbR HbF Hbf HbE Hb2 Hu1 Hu1z
  have HbC := Lib.hid g2; have HbR := Lib.hid g3; have HbF := Lib.hid g4; have Hbf := Lib.hid g1; have HbE := Lib.hid g5; have Hu2 := Lib.hid g6; have Hu2z := Lib.hid g7
  clear g1 g2 g3 g4 g5 g6 g7
  obtain ⟨W3, rfl⟩ : ∃ W3 : World, W3 = wc := ⟨_, rfl⟩
  have HR45 := Lib.hid (show u2 = 0 → (∀ t : Int, mpF m tl 0 tl = (17, t) → R = ((17, t), noC)) ∧ (mpF m tl 0 tl = (0, 0) → R = ((0, 0), ⟨m, bi, ops.map (movO tl)⟩)) from fun h => by
    have hz := Hu2z.out h
    exact ⟨HR4.out hz.2.1 (by have := hz.2.2.1; omega) hz.2.2.2, HR5.out hz.2.1 (by have := hz.2.2.1; omega) hz.2.2.2⟩)
  go_wp2_with fail
  go_loopg [9] (tn + 1) (fun kk s9 wx => ∃ (i : Nat) (u v : Int), s9 = .int .i64 (i : Int) ∧ i ≤ tn ∧ tn + 1 - i = kk ∧ FtB wx Fb u v ∧ CiB wx H qb bi ao n cp ∧ CiB wx (H + 1) 0 0 none 0 0 ∧ FtB wx (H + 2) 0 0 ∧ Ext w wx ∧ (u ≠ 0 → R = ((u, v), noC)) ∧ (u = 0 → v = 0 ∧ u2 = 0 ∧ mpF m tl 0 tl = mpF m tl i (tl.drop i)))
  case atStart => exact ⟨0, u2, v2, rfl, by omega, by omega, Hbf.out, HbC.out, HbR.out, HbF.out, HbE.out, fun h => Hu2.out h, fun h => ⟨(Hu2z.out h).1, h, by rw [List.drop_zero]⟩⟩
  case round =>
    clear HbC HbR HbF Hbf HbE
    obtain ⟨i, u, v, rfl, hin', hk, bf, bC, bR, bF, hX, hu1, hu0⟩ := hrel
    have d0 := bf.x0
    have Hbf := Lib.hid bf; have HbC := Lib.hid bC; have HbR := Lib.hid bR; have HbF := Lib.hid bF; have HbE := Lib.hid hX; have Hu1 := Lib.hid hu1; have Hu0 := Lib.hid hu0; have Hk := Lib.hid hk
    clear bf bC bR bF hX hu1 hu0 hk
    by_cases hgo : i < tn ∧ u = 0
    · obtain ⟨hit, hu⟩ := hgo
      have q1 : (i : Int) < (tn : Int) := by omega
      have q1' : decide ((i : Int) < (tn : Int)) = true := dt q1
      have q0 : (0 : Int) ≤ (i : Int) := by omega
      have q2 : (i : Int) ≤ (tc : Int) := by omega
      have nu : (u == 0) = true := bt' hu
      obtain ⟨hv0, hu20, hcl⟩ := Hu0.out hu
      have Hu20 := Lib.hid hu20
      rw [mpF_step m tl i (by rw [Hlt.out]; omega)] at hcl
      have hat := Hto.out.ext HbE.out
      obtain ⟨tb, tof, rfl, htb, htc'⟩ := hat.at (by omega)
      have t0 := htc' i (by omega)
      obtain ⟨x, hx⟩ : ∃ y, tl.getD i 0 = y := ⟨_, rfl⟩
      rw [hx] at t0 hcl
      have HC := Lib.hid (fun wx (hx : Ext wr wx) => member_any (some ⟨tb, tof, none⟩) i tc (tl.take i) x wx ((hat.take i (by omega)).ext hx) (by omega) htm)
      have Hcl0 := Lib.hid hcl; have Hit := Lib.hid hit
      obtain ⟨bd, hbd⟩ : ∃ y, decide (below x m = false ∨ x ∈ tl.take i) = y := ⟨_, rfl⟩
      have Hbd := Lib.hid hbd
      have Hu := Lib.hid hu
      clear hcl hat htb htc' hx hbd hv0 hu20 hu hit
      go_upto_region 9 with fail
      clear d0
      obtain ⟨wo, rfl⟩ : ∃ wo : World, wo = wr := ⟨_, rfl⟩
      go_cut [71] from 38 to 73 (fun s71 wx => s71 = .bool bd ∧ Ext wo wx)
      case first =>
        by_cases h1 : x < 0
        · have e1 : decide (x < 0) = true := dt h1
          have HF := Lib.hid (show bd = true by rw [← Hbd.out]; exact dt (Or.inl (by simp [below]; omega)))
          clear h1
          go_quiet (fail)
          go_wp2_with fail
          go_meet
          exact ⟨by rw [HF.out], ext_drewN wo _⟩
        · have e1 : decide (x < 0) = false := df h1
          by_cases h2 : m ≤ x
          · have e2 : decide (m ≤ x) = true := dt h2
            have HF := Lib.hid (show bd = true by rw [← Hbd.out]; exact dt (Or.inl (by simp [below]; omega)))
            clear h1 h2
            go_quiet (fail)
            go_wp2_with fail
            go_meet
            exact ⟨by rw [HF.out], ext_drewN wo _⟩
          · have e2 : decide (m ≤ x) = false := df h2
            have hbt : below x m = true := by simp [below]; omega
            have HF := Lib.hid (show bd = decide (x ∈ tl.take i) by rw [← Hbd.out]; exact decide_eq_decide.2 ⟨fun hh => hh.elim (fun h => by rw [hbt] at h; cases h) id, Or.inr⟩)
            have HCd := Lib.hid (fun k => HC.out (wo.drewN k) (ext_drewN wo k))
            clear h1 h2 hbt
            go_quiet ((go_at_call 36; refine Calls.quiet_of_same (HCd.out _)))
            go_wp2_with fail
            go_meet
            exact ⟨by rw [HF.out], ext_drewN wo _⟩
      case rest =>
      obtain ⟨rfl, hxd⟩ := hcut
      have Hbf2 := Lib.hid (Hbf.out.ext hxd); have HbC2 := Lib.hid (HbC.out.ext hxd); have HbR2 := Lib.hid (HbR.out.ext hxd); have HbF2 := Lib.hid (HbF.out.ext hxd); have HbE2 := Lib.hid (HbE.out.trans hxd)
      clear hxd Hbf HbC HbR HbF HbE t0 HC
      cases bd with
      | true =>
        have hcl := Hcl0.out
        rw [if_pos (of_decide_eq_true Hbd.out)] at hcl
        have HRz := Lib.hid ((HR45.out Hu20.out).1 _ hcl)
        clear hcl
        go_wp2_with fail
        refine (rfault_any 17 (i : Int) wc).mono ?_
        rintro e w2 ⟨rfl, hx2⟩
        have hf2 := Hbf2.out.ext hx2
        have p0 := hf2.x0; have p1 := hf2.x1; have p2 := hf2.f 0; have p3 := hf2.f 1
        have hOn := only2 w2 Fb (.int .i64 17) (.int .i64 (i : Int))
        have H1 := Lib.hid (hf2.put 17 (i : Int)); have H2 := Lib.hid ((HbC2.out.ext hx2).kept hOn nF0); have H3 := Lib.hid ((HbR2.out.ext hx2).kept hOn nF1.symm); have H4 := Lib.hid ((HbF2.out.ext hx2).kept hOn nF2.symm); have H5 := Lib.hid (ext_only (HbE2.out.trans hx2) hOn HwF.out)
        clear hx2 hf2 hOn
        go_wp2_with fail
        go_roundg (tn + 1 - (i + 1))
        case measure => have := Hk.out; omega
        case rel => exact ⟨i + 1, 17, (i : Int), by go_num, Hit.out, rfl, H1.out, H2.out, H3.out, H4.out, H5.out, fun _ => HRz.out, fun h => by omega⟩
      | false =>
        have hcl := Hcl0.out
        rw [if_neg (of_decide_eq_false Hbd.out)] at hcl
        have Hcl := Lib.hid hcl
        clear hcl
        go_wp2_with fail
        go_roundg (tn + 1 - (i + 1))
        case measure => have := Hk.out; omega
        case rel => exact ⟨i + 1, u, v, by go_num, Hit.out, rfl, Hbf2.out, HbC2.out, HbR2.out, HbF2.out, HbE2.out, fun h => Hu1.out h, fun h => ⟨(Hu0.out h).1, Hu20.out, Hcl.out⟩⟩
    by_cases hu : u = 0
    rotate_left 1
    · have nu : (u == 0) = false := bf hu
      have nu' : (u != 0) = true := nt hu
      have HRz := Lib.hid (Hu1.out hu)
      have d1 := Hbf.out.x1
      clear hu hgo
      by_cases hit : i = tn
      · have q1 : ¬ (i : Int) < (tn : Int) := by omega
        have q1' : decide ((i : Int) < (tn : Int)) = false := df q1
        clear hit
        go_upto_region 11 with fail
        have r0 := HbR.out.x0; have r1 := HbR.out.x1; have r2 := HbR.out.x2; have g0 := HbR.out.f 0; have g1 := HbR.out.f 1; have g2 := HbR.out.f 2
        have f0 := HbF.out.x0; have f1 := HbF.out.x1; have k0 := HbF.out.f 0; have k1 := HbF.out.f 1
        have zC := (putCF_C HbR.out (show H + 1 ≠ H + 2 by omega) 0 0 none 0 0 u v).drew
        have zF := (putCF_F HbF.out (show H + 1 ≠ H + 2 by omega) 0 0 none 0 0 u v).drew
        have zE : Ext w (putCF wr (H + 1) (H + 2) 0 0 none 0 0 u v).drew := Below.drew (putCF_ext HbE.out (show w.heap.size ≤ H + 1 by omega) (show w.heap.size ≤ H + 2 by omega) _ _ _ _ _ _ _)
        obtain ⟨Wz, hWz⟩ : ∃ Wz, putCF wr (H + 1) (H + 2) 0 0 none 0 0 u v = Wz := ⟨_, rfl⟩
        rw [hWz] at zC zF zE
        unfold putCF at hWz
        have HWz := Lib.hid hWz; have HzE := Lib.hid zE
        have v0 := zC.x0; have v1 := zC.x1; have v2 := zC.x2; have v3 := zF.x0; have v4 := zF.x1
        have HAns := Lib.hid (show ∀ e : Ending, e = .returned (.tuple #[.agg #[.int .i64 0, .int .i64 0, .slice none 0 0], .agg #[.int .i64 u, .int .i64 v]]) → Ans w Wz.drew e R from fun e he => by rw [HRz.out]; exact Ans.none he)
        clear zC zF zE hWz
        go_upto_region 12 with fail
        go_region
        go_wp2_with fail
        rw [HWz.out]
        exact bodyPost_ret (v := .tuple #[.agg #[.int .i64 0, .int .i64 0, .slice none 0 0], .agg #[.int .i64 u, .int .i64 v]]) (by simp [results, Tryd.results14, go_sem, v0, v1, v2, v3, v4]) rfl ⟨HAns.out _ rfl, HzE.out⟩
      · have q1 : (i : Int) < (tn : Int) := by omega
        have q1' : decide ((i : Int) < (tn : Int)) = true := dt q1
        clear hit
        go_upto_region 11 with fail
        have r0 := HbR.out.x0; have r1 := HbR.out.x1; have r2 := HbR.out.x2; have g0 := HbR.out.f 0; have g1 := HbR.out.f 1; have g2 := HbR.out.f 2
        have f0 := HbF.out.x0; have f1 := HbF.out.x1; have k0 := HbF.out.f 0; have k1 := HbF.out.f 1
        have zC := (putCF_C HbR.out (show H + 1 ≠ H + 2 by omega) 0 0 none 0 0 u v).drew
        have zF := (putCF_F HbF.out (show H + 1 ≠ H + 2 by omega) 0 0 none 0 0 u v).drew
        have zE : Ext w (putCF wr (H + 1) (H + 2) 0 0 none 0 0 u v).drew := Below.drew (putCF_ext HbE.out (show w.heap.size ≤ H + 1 by omega) (show w.heap.size ≤ H + 2 by omega) _ _ _ _ _ _ _)
        obtain ⟨Wz, hWz⟩ : ∃ Wz, putCF wr (H + 1) (H + 2) 0 0 none 0 0 u v = Wz := ⟨_, rfl⟩
        rw [hWz] at zC zF zE
        unfold putCF at hWz
        have HWz := Lib.hid hWz; have HzE := Lib.hid zE
        have v0 := zC.x0; have v1 := zC.x1; have v2 := zC.x2; have v3 := zF.x0; have v4 := zF.x1
        have HAns := Lib.hid (show ∀ e : Ending, e = .returned (.tuple #[.agg #[.int .i64 0, .int .i64 0, .slice none 0 0], .agg #[.int .i64 u, .int .i64 v]]) → Ans w Wz.drew e R from fun e he => by rw [HRz.out]; exact Ans.none he)
        clear zC zF zE hWz
        go_upto_region 12 with fail
        go_region
        go_wp2_with fail
        rw [HWz.out]
        exact bodyPost_ret (v := .tuple #[.agg #[.int .i64 0, .int .i64 0, .slice none 0 0], .agg #[.int .i64 u, .int .i64 v]]) (by simp [results, Tryd.results14, go_sem, v0, v1, v2, v3, v4]) rfl ⟨HAns.out _ rfl, HzE.out⟩
    have hit : i = tn := Decidable.byContradiction fun hh => hgo ⟨by omega, hu⟩
    have q1 : ¬ (i : Int) < (tn : Int) := by omega
    have q1' : decide ((i : Int) < (tn : Int)) = false := df q1
    have nu' : (u != 0) = false := nf' hu
    obtain ⟨hv0, hu20, hcl⟩ := Hu0.out hu
    rw [hit, mpF_end m tl tn (by rw [Hlt.out]; omega)] at hcl
    have HRz := Lib.hid ((HR45.out hu20).2 hcl)
    obtain ⟨hz1, hz2, hz3, hz4⟩ := Hu2z.out hu20
    obtain ⟨hn4, hqb, hfit⟩ := Hfit.out hz2
    have Hft := Lib.hid hfit; have Hlen := Lib.hid hz4
    have Hbf0 := Lib.hid (show FtB wr Fb 0 0 by have := Hbf.out; rw [hu, hv0] at this; exact this)
    have HCo := Lib.hid (CopyCircuit_N ⟨qb, bi, ops⟩ ao n cp wr (Hops.out.ext HbE.out) (by omega) (fun g hg => by have := (hfit g hg).1; simp only at *; omega))
    simp only at HCo
    have l0 := HbC.out.x0; have l1 := HbC.out.x1; have l2 := HbC.out.x2
    clear hgo hu hv0 hu20 hcl hz1 hz2 hz3 hz4 hqb hfit hit hin'
    go_wp2_with fail
    obtain ⟨W4, rfl⟩ : ∃ W4 : World, W4 = wr := ⟨_, rfl⟩
    refine HCo.out.mono ?_
    rintro e w5 ⟨⟨av, cv, rfl, hO5⟩, hx5⟩
    clear l0 l1 l2 d0
    have bO0 : CiB (w5.alloc (.cells #[.int .i64 qb, .int .i64 bi, .slice av n cv] 24)) w5.heap.size qb bi av n cv := ⟨heap_alloc_new w5 _⟩
    have y0 := bO0.x0; have y2 := bO0.x2; have f0 := bO0.f 0
    have Eo := ext_al w5 (.cells #[.int .i64 m, .int .i64 bi, .slice av n cv] 24)
    have bO6 : CiB (w5.alloc (.cells #[.int .i64 m, .int .i64 bi, .slice av n cv] 24)) w5.heap.size m bi av n cv := ⟨heap_alloc_new w5 _⟩
    have hX := hx5.trans Eo
    have hw53 : W4.heap.size ≤ w5.heap.size := hx5.size
    have HsF := Lib.hid (show Fb < W4.heap.size from Hbf0.out.lt)
    have HcR5 := Lib.hid (HbR.out.ext hX); have HcF5 := Lib.hid (HbF.out.ext hX); have Hcf5 := Lib.hid (Hbf0.out.ext hX); have HcE5 := Lib.hid (HbE.out.trans hX); have HO5 := Lib.hid bO6; have Hown5 := Lib.hid (hO5.ext Eo)
    have y2' := bO6.x2
    have HOs := Lib.hid (show w5.heap.size < (w5.alloc (.cells #[.int .i64 m, .int .i64 bi, .slice av n cv] 24)).heap.size by simp)
    have Hw53 := Lib.hid hw53
    have Hww := Lib.hid (show w.heap.size ≤ W4.heap.size from HbE.out.size)
    clear hx5 hO5 Eo bO0 hX HbC HbR HbF HbE bO6 hw53 Hbf Hbf0
    go_upto_region 16 with fail
    generalize w5.alloc (.cells #[.int .i64 m, .int .i64 bi, .slice av n cv] 24) = W5 at *
    obtain ⟨Ob, hOb⟩ : ∃ y, w5.heap.size = y := ⟨_, rfl⟩
    rw [hOb] at HO5 HOs Hw53 y2' ⊢
    clear hOb y0 y2 f0 y2'
    obtain ⟨base, hbase⟩ : ∃ y, W4.heap.size = y := ⟨_, rfl⟩
    rw [hbase] at Hown5 HsF Hww Hw53
    clear hbase
    have nO1 : Ob ≠ H + 1 := by have := HsF.out; have := Hw53.out; have := Hlo.out; omega
    have nO2 : Ob ≠ H + 2 := by have := HsF.out; have := Hw53.out; have := Hlo.out; omega
    have nOF : Ob ≠ Fb := by have := HsF.out; have := Hw53.out; omega
    go_loopg [11, 12] n (fun kk s11 s12 wx => ∃ i : Nat, s11 = .int .i64 (i : Int) ∧ i ≤ n ∧ n - i = kk ∧ CiB wx (H + 1) 0 0 none 0 0 ∧ FtB wx (H + 2) 0 0 ∧ FtB wx Fb 0 0 ∧ CiB wx Ob m bi av n cv ∧ OpsN wx base (.slice av n cv) (mapF (movO tl) ops i) ∧ Ext w wx)
    case atStart => exact ⟨0, rfl, by omega, by omega, HcR5.out, HcF5.out, Hcf5.out, HO5.out, by rw [mapF_zero]; exact Hown5.out, HcE5.out⟩
    case round =>
      clear HcR5 HcF5 Hcf5 HO5 Hown5 HcE5
      obtain ⟨i, rfl, hin', hk, bR, bF, bf, bO, hO, hX⟩ := hrel
      have v2 := bO.x2
      by_cases hin : i = n
      · have q1 : ¬ (i : Int) < (n : Int) := by omega
        have q1' : decide ((i : Int) < (n : Int)) = false := df q1
        rw [mapF_all (by rw [Hl.out]; omega)] at hO
        have y0 := bO.x0; have y1 := bO.x1; have y2 := bO.x2
        have r0 := bR.x0; have r1 := bR.x1; have r2 := bR.x2; have g0 := bR.f 0; have g1 := bR.f 1; have g2 := bR.f 2
        have f0 := bF.x0; have f1 := bF.x1; have k0 := bF.f 0; have k1 := bF.f 1
        have d0 := bf.x0; have d1 := bf.x1
        have zC := (putCF_C bR (show H + 1 ≠ H + 2 by omega) m bi av n cv 0 0).drew
        have zF := (putCF_F bF (show H + 1 ≠ H + 2 by omega) m bi av n cv 0 0).drew
        have zO := ((putCF_opsN hO bR bF (show H + 1 ≠ H + 2 by omega) m bi av n cv 0 0).ext (cdrew (Ext.refl _))).down (show w.heap.size ≤ base from Hww.out)
        have zE : Ext w (putCF wr (H + 1) (H + 2) m bi av n cv 0 0).drew := Below.drew (putCF_ext hX (show w.heap.size ≤ H + 1 by omega) (show w.heap.size ≤ H + 2 by omega) _ _ _ _ _ _ _)
        obtain ⟨Wz, hWz⟩ : ∃ Wz, putCF wr (H + 1) (H + 2) m bi av n cv 0 0 = Wz := ⟨_, rfl⟩
        rw [hWz] at zC zF zO zE
        unfold putCF at hWz
        have HWz := Lib.hid hWz; have HzE := Lib.hid zE
        have HAns := Lib.hid (show ∀ e : Ending, e = .returned (.tuple #[.agg #[.int .i64 m, .int .i64 bi, .slice av n cv], .agg #[.int .i64 0, .int .i64 0]]) → Ans w Wz.drew e R from fun e he => by rw [HRz.out]; exact ⟨av, n, cv, he, zO⟩)
        have v0 := zC.x0; have v1 := zC.x1; have v2' := zC.x2; have v3 := zF.x0; have v4 := zF.x1
        clear zC zF zO zE hWz bR bF bO hO hX hin' hk hin bf
        go_upto_region 24 with fail
        go_region
        go_wp2_with fail
        rw [HWz.out]
        exact bodyPost_ret (v := .tuple #[.agg #[.int .i64 m, .int .i64 bi, .slice av n cv], .agg #[.int .i64 0, .int .i64 0]]) (by simp [results, Tryd.results14, go_sem, v0, v1, v2', v3, v4]) rfl ⟨HAns.out _ rfl, HzE.out⟩
      have q1 : (i : Int) < (n : Int) := by omega
      have q1' : decide ((i : Int) < (n : Int)) = true := dt q1
      have p0 : (0 : Int) ≤ (i : Int) := by omega
      obtain ⟨gg, hg⟩ : ∃ g, ops[i]? = some g := ⟨_, List.getElem?_eq_getElem (by rw [Hl.out]; omega)⟩
      obtain ⟨⟨hbl1, hbl2⟩, hk1, hk6, hkq, hkc⟩ := Hft.out gg (List.mem_of_getElem? hg)
      have hgi : (mapF (movO tl) ops i)[i]? = some gg := by rw [mapF_get (by rw [Hl.out]; omega), if_neg (by omega)]; exact hg
      have hml : (mapF (movO tl) ops i).length = n := by rw [mapF_len]; exact Hl.out
      have hms := mapF_set (f := movO tl) hg
      obtain ⟨L, hL⟩ : ∃ y, mapF (movO tl) ops i = y := ⟨_, rfl⟩
      rw [hL] at hO hgi hml hms
      have Hms := Lib.hid hms; have Hml := Lib.hid hml; have Hgi := Lib.hid hgi
      have hqe := Hlen.out
      have Hkq := Lib.hid (show ¬ gg.kind = 1 → 0 ≤ gg.q ∧ gg.q < (tn : Int) by rw [hqe]; exact hkq); have Hkc := Lib.hid (show ∀ x ∈ gg.ctl, 0 ≤ x ∧ x < (tn : Int) by rw [hqe]; exact hkc)
      have Hk := Lib.hid hk; have Hc1 := Lib.hid hbl1
      have Hmv := Lib.hid (show movO tl gg = ⟨gg.kind, gg.k, gg.ctl.map (tq tl), (movO tl gg).q, gg.bit, gg.cnd⟩ from rfl)
      have Hqv := Lib.hid (show (movO tl gg).q = if gg.kind = 1 then gg.q else tq tl gg.q from rfl)
      clear hms hml hgi hL hqe hkq hkc hk hbl1 hbl2
      obtain ⟨hl2, g, cur, eav, hbg, hrw, hnc, hcm, hsz, hsep, hrow⟩ := opsN_open hO (by omega)
      obtain ⟨a1, m1, c1, a2, m2, c2, x0, x1, x2, x3, x4, x5, x6⟩ := hrow i gg Hgi.out
      have eav' := eav
      rw [eav] at v2
      have ce : ∀ (k : Nat) (v : Value), cur[k]? = some v → wr.cell? ⟨g, k, none⟩ = some v := fun k v e => by rw [cell_of_row wr g k cur _ (0, 0) hrw]; exact e
      have t0 := ce _ _ x0; have t3 := ce _ _ x3
      have f3 : wr.frozen? ⟨g, i * 6 + 3, none⟩ = false := frozen_of_row wr g _ _ _ hrw
      have HbR := Lib.hid bR; have HbF := Lib.hid bF; have Hbf := Lib.hid bf; have HbO := Lib.hid bO; have HX := Lib.hid hX; have HO := Lib.hid hO; have Hrow := Lib.hid hrow; have Hsep := Lib.hid hsep; have Hrw := Lib.hid hrw
      have Hnc := Lib.hid hnc; have Hcm := Lib.hid hcm; have Hsz := Lib.hid hsz; have Hbg := Lib.hid hbg; have Hav := Lib.hid eav
      obtain ⟨kd, kk', ctl, qq, bb, cnd⟩ := gg
      simp only at t0 t3 Hkq Hkc Hmv Hqv hk1 hk6 Hc1
      obtain ⟨q', hq'⟩ : ∃ y, (movO tl ⟨kd, kk', ctl, qq, bb, cnd⟩).q = y := ⟨_, rfl⟩
      rw [hq'] at Hmv Hqv
      clear bR bF bf bO hX hO hrow hsep hrw hnc hcm hsz hbg ce x0 x1 x2 x3 x4 x5 x6 hl2 hg hq' eav' eav
      go_upto_if 96 with fail
      obtain ⟨wo, rfl⟩ : ∃ wo : World, wo = wr := ⟨_, rfl⟩
      go_cut [] from 83 to 141 (fun wx => CiB wx (H + 1) 0 0 none 0 0 ∧ FtB wx (H + 2) 0 0 ∧ FtB wx Fb 0 0 ∧ CiB wx Ob m bi av n cv ∧ OpsN wx base (.slice av n cv) (L.set i ⟨kd, kk', ctl, q', bb, cnd⟩) ∧ Ext w wx)
      case first =>
        by_cases hk : kd = 1
        · have b1 := ne_f hk; have b2 := eq_t hk
          have hqe := Hqv.out
          rw [if_pos hk] at hqe
          have hLs : L.set i ⟨kd, kk', ctl, q', bb, cnd⟩ = L := by
            rw [hqe]
            exact set_same Hgi.out
          have HLs := Lib.hid hLs
          clear hk hqe hLs
          go_wp2_with fail
          go_meet
          exact ⟨HbR.out, HbF.out, Hbf.out, HbO.out, by rw [HLs.out]; exact HO.out, HX.out⟩
        · have b1 := nt' hk; have b2 := bf' hk
          have hqe := Hqv.out
          rw [if_neg hk] at hqe
          obtain ⟨hq0, hq1⟩ := Hkq.out hk
          obtain ⟨qn, rfl⟩ : ∃ y : Nat, qq = (y : Int) := ⟨qq.toNat, by omega⟩
          obtain ⟨tb, tof, rfl, htb, htc'⟩ := (Hto.out.ext HX.out).at (by omega)
          have s3 := htc' qn (by omega)
          have htv : tl.getD qn 0 = q' := by rw [hqe]; rfl
          rw [htv] at s3
          have hOn := only1 wo g (i * 6 + 3) (.int .i64 q')
          have hki := only_ints Hrw.out (by decide) hOn
          have hr8 : (wo.setCell ⟨g, i * 6 + 3, none⟩ (.int .i64 q')).heap[g]? = some (.cells (cur.setIfInBounds (i * 6 + 3) (.int .i64 q')) 43 (0, 0)) := row_put Hrw.out rfl
          have hrow8 := rowF_q (w' := wo.setCell ⟨g, i * 6 + 3, none⟩ (.int .i64 q')) q' Hml.out (by omega) (by rw [Hsz.out]; have := Hnc.out; omega) Hrow.out Hgi.out (fun _ _ _ _ _ _ _ o => o.keep hki)
          have hO8 := opsN_close (base := base) (n := n) (c := cv) (by rw [List.length_set]; exact Hml.out) Hbg.out hr8 Hnc.out Hcm.out (by simp [Hsz.out]) (sepF_int Hsep.out) hrow8
          have hgk : ∀ k (cs : Array Value) (T : TypeId) fr, wo.heap[k]? = some (.cells cs T fr) → T ≠ 43 → k ≠ g := fun k cs T fr h1 h2 e => by rw [e, Hrw.out] at h1; cases h1; exact h2 rfl
          have hE := cdrew (Ext.refl (wo.setCell ⟨g, i * 6 + 3, none⟩ (.int .i64 q')))
          have H1 := Lib.hid (((HbR.out.kept hOn (hgk _ _ _ _ HbR.out.row (by decide))).ext hE)); have H2 := Lib.hid ((HbF.out.kept hOn (hgk _ _ _ _ HbF.out.row (by decide))).ext hE); have H3 := Lib.hid ((Hbf.out.kept hOn (hgk _ _ _ _ Hbf.out.row (by decide))).ext hE); have H4 := Lib.hid ((HbO.out.kept hOn (hgk _ _ _ _ HbO.out.row (by decide))).ext hE)
          rw [← Hav.out] at hO8
          have H5 := Lib.hid (hO8.ext hE); have H6 := Lib.hid ((ext_only HX.out hOn (by have := Hww.out; have := Hbg.out; omega)).trans hE)
          clear hOn hki hr8 hrow8 hO8 hgk hE htc' htb hqe htv hk
          go_upto_region 19 with fail
          go_region
          generalize (wo.setCell ⟨g, i * 6 + 3, none⟩ (.int .i64 q')).drew = Wd at *
          go_wp2_with fail
          go_meet
          exact ⟨H1.out, H2.out, H3.out, H4.out, H5.out, H6.out⟩
      case rest =>
      obtain ⟨g1, g2, g3, g4, g5, g6⟩ := hcut
      clear HbR HbF Hbf HbO HX HO Hrow Hsep Hrw v2 t0 t3 f3 Hnc Hcm Hsz Hbg Hav
      have HbR := Lib.hid g1; have HbF := Lib.hid g2; have Hbf := Lib.hid g3; have HbO := Lib.hid g4; have HO := Lib.hid g5; have HX := Lib.hid g6
      clear g1 g2 g3 g4 g5 g6
      obtain ⟨wq, rfl⟩ : ∃ wq : World, wq = wc := ⟨_, rfl⟩
      obtain ⟨nl, hnl⟩ : ∃ y, ctl.length = y := ⟨_, rfl⟩
      have Hnl := Lib.hid hnl
      have hnl4 : nl ≤ 1000 := by rw [← hnl]; exact Hc1.out
      clear hnl
      go_wp2_with fail
      go_loopg [12] nl (fun kk s12 wx => ∃ j : Nat, s12 = .int .i64 (j : Int) ∧ j ≤ nl ∧ nl - j = kk ∧ CiB wx (H + 1) 0 0 none 0 0 ∧ FtB wx (H + 2) 0 0 ∧ FtB wx Fb 0 0 ∧ CiB wx Ob m bi av n cv ∧ OpsN wx base (.slice av n cv) (L.set i ⟨kd, kk', mapI (tq tl) ctl j, q', bb, cnd⟩) ∧ Ext w wx)
      case atStart => exact ⟨0, rfl, by omega, by omega, HbR.out, HbF.out, Hbf.out, HbO.out, by rw [mapI_zero]; exact HO.out, HX.out⟩
      case round =>
        clear HbR HbF Hbf HbO HO HX
        obtain ⟨j, rfl, hjn, hkj, bR, bF, bf, bO, hO, hX⟩ := hrel
        have v2 := bO.x2
        obtain ⟨hl2, gr, cur, eav, hbg, hrw, hnc, hcm, hsz, hsep, hrow⟩ := opsN_open hO (by omega)
        obtain ⟨a1, m1, c1, a2, m2, c2, x0, x1, x2, x3, x4, x5, x6⟩ := hrow i ⟨kd, kk', mapI (tq tl) ctl j, q', bb, cnd⟩ (List.getElem?_set_self (by rw [Hml.out]; omega))
        have hm1 : m1 = nl := by have h1 := x6.opO.l.i1.1; simp only at h1; rw [mapI_len, Hnl.out] at h1; exact h1.symm
        subst hm1
        rw [eav] at v2
        have ce : ∀ (k : Nat) (v : Value), cur[k]? = some v → wr.cell? ⟨gr, k, none⟩ = some v := fun k v e => by rw [cell_of_row wr gr k cur _ (0, 0) hrw]; exact e
        have t2 := ce _ _ x2
        have Hx := Lib.hid x6
        by_cases hjm : j = m1
        · have z1 : ¬ (j : Int) < (m1 : Int) := by omega
          have z1' : decide ((j : Int) < (m1 : Int)) = false := df z1
          rw [mapI_all (by rw [Hnl.out]; omega), ← Hmv.out, Hms.out] at hO
          have HbR := Lib.hid bR; have HbF := Lib.hid bF; have Hbf := Lib.hid bf; have HbO := Lib.hid bO; have HO := Lib.hid hO; have HX := Lib.hid hX
          clear bR bF bf bO hO hX hrow hrw hsep ce x0 x1 x2 x3 x4 x5 x6 hjm hl2 hnc hcm hsz hbg eav
          go_wp2_with fail
          go_roundg (n - (i + 1))
          case measure => have := Hk.out; omega
          case rel => exact ⟨i + 1, by go_num, by omega, rfl, HbR.out, HbF.out, Hbf.out, HbO.out, HO.out, HX.out⟩
        · have z1 : (j : Int) < (m1 : Int) := by omega
          have z1' : decide ((j : Int) < (m1 : Int)) = true := dt z1
          have z0 : (0 : Int) ≤ (j : Int) := by omega
          obtain ⟨gl, rfl⟩ := x6.i1.addr (by omega)
          obtain ⟨c0, f0, cs, hcs⟩ := x6.i1.cell j (by omega)
          simp only at c0
          rw [mapI_get (by rw [Hnl.out]; omega)] at c0
          obtain ⟨x, hx⟩ : ∃ y, ctl.getD j 0 = y := ⟨_, rfl⟩
          have hxm : x ∈ ctl := by
            rw [← hx, List.getD_eq_getElem?_getD, List.getElem?_eq_getElem (by rw [Hnl.out]; omega)]
            exact List.getElem_mem _
          obtain ⟨hx0, hx1⟩ := Hkc.out x hxm
          obtain ⟨xn, rfl⟩ : ∃ y : Nat, x = (y : Int) := ⟨x.toNat, by omega⟩
          rw [hx] at c0
          obtain ⟨tb, tof, rfl, htb, htc'⟩ := (Hto.out.ext hX).at (by omega)
          have s0 := htc' xn (by omega)
          obtain ⟨v, hv⟩ : ∃ y, tl.getD xn 0 = y := ⟨_, rfl⟩
          have hvt : tq tl (ctl.getD j 0) = v := by rw [hx]; exact hv
          rw [hv] at s0
          have hIs := x6.i1.put (i := j) (show j < m1 by omega) v
          simp only at hIs
          rw [← hvt, mapI_set (by rw [Hnl.out]; omega), hvt] at hIs
          have hOn := only1 wr gl j (.int .i64 v)
          have hgl := x6.i1.lt gl rfl
          have hkk : ∀ k, k < wr.heap.size → (Value.slice (some ⟨gl, 0, none⟩) m1 c1).ownBlock ≠ some k → (wr.setCell ⟨gl, j, none⟩ (.int .i64 v)).heap[k]? = wr.heap[k]? := fun k _ he => hOn.block k (fun e => he (by rw [e]; rfl))
          have hON : OpN (wr.setCell ⟨gl, j, none⟩ (.int .i64 v)) base ⟨kd, kk', mapI (tq tl) ctl (j + 1), q', bb, cnd⟩ (some ⟨gl, 0, none⟩) m1 c1 a2 m2 c2 := ⟨hIs, x6.i2.keep1 (fun k hk => hkk k (x6.i2.lt k hk).2 (fun e => x6.ne k e hk)), x6.ne⟩
          have hrow8 := rowF_list (by rw [List.length_set]; exact Hml.out) hsep hrow (show i < n by omega) hON x0 x1 x2 x3 x4 x5 hkk
          rw [List.set_set] at hrow8
          have hgk : ∀ k (cs' : Array Value) (T : TypeId) fr, wr.heap[k]? = some (.cells cs' T fr) → T ≠ 3 → k ≠ gl := fun k cs' T fr h1 h2 e => by rw [e, hcs] at h1; cases h1; exact h2 rfl
          have hr8 : (wr.setCell ⟨gl, j, none⟩ (.int .i64 v)).heap[gr]? = some (.cells cur 43 (0, 0)) := (hOn.block gr (hgk _ _ _ _ hrw (by decide))).trans hrw
          have hO8 := opsN_close (base := base) (n := n) (c := cv) (by rw [List.length_set]; exact Hml.out) hbg hr8 hnc hcm hsz hsep hrow8
          have hE := cdrew (Ext.refl (wr.setCell ⟨gl, j, none⟩ (.int .i64 v)))
          have H1 := Lib.hid ((bR.kept hOn (hgk _ _ _ _ bR.row (by decide))).ext hE); have H2 := Lib.hid ((bF.kept hOn (hgk _ _ _ _ bF.row (by decide))).ext hE); have H3 := Lib.hid ((bf.kept hOn (hgk _ _ _ _ bf.row (by decide))).ext hE); have H4 := Lib.hid ((bO.kept hOn (hgk _ _ _ _ bO.row (by decide))).ext hE)
          rw [← eav] at hO8
          have H5 := Lib.hid (hO8.ext hE); have H6 := Lib.hid ((ext_only hX hOn (by have := Hww.out; omega)).trans hE)
          have Hkj := Lib.hid hkj; have Hjm := Lib.hid (show j + 1 ≤ m1 by omega)
          clear bR bF bf bO hO hX hrow hrw hsep ce x0 x1 x2 x3 x4 x5 x6 hjm hl2 hnc hcm hsz hbg eav hIs hOn hgl hkk hON hrow8 hgk hr8 hO8 hE htc' htb hx hxm hv hvt hcs hkj Hx
          go_upto_region 23 with fail
          go_region
          generalize (wr.setCell ⟨gl, j, none⟩ (.int .i64 v)).drew = Wd at *
          go_wp2_with fail
          go_roundg (m1 - (j + 1))
          case measure => have := Hkj.out; have := Hjm.out; omega
          case rel => exact ⟨j + 1, by go_num, Hjm.out, rfl, H1.out, H2.out, H3.out, H4.out, H5.out, H6.out⟩

end Go.Proofs.YtapolidgocfbjaaDoor
namespace Go.Proofs.YtapolidgocfbjaaDoor
open Go.RowKit

def smallC : Gci := ⟨2, 1, [⟨3, 0, [], 0, 0, []⟩, ⟨2, 0, [0], 1, 0, []⟩, ⟨5, 0, [], 1, 0, [-1]⟩]⟩
theorem smallC_chk : chk smallC = (0, 0) := by decide
theorem smallC_prn : prnV smallC = ⟨#[113, 117, 98, 105, 116, 115, 32, 50, 32, 98, 105, 116, 115, 32, 49, 10, 104, 32, 48, 10, 120, 32, 49, 32, 111, 110, 32, 48, 10, 109, 101, 97, 115, 117, 114, 101, 32, 49, 32, 116, 111, 32, 48, 32, 105, 102, 32, 33, 48, 10]⟩ := by
  have d0 : Lib.decDigits 0 = [48] := by rw [Lib.decDigits_one (by omega)]; rfl
  have d1 : Lib.decDigits 1 = [49] := by rw [Lib.decDigits_one (by omega)]; rfl
  have d2 : Lib.decDigits 2 = [50] := by rw [Lib.decDigits_one (by omega)]; rfl
  have n0 : numL 0 = [32, 48] := by show 32 :: Lib.decDigits 0 = _; rw [d0]
  have n1 : numL 1 = [32, 49] := by show 32 :: Lib.decDigits 1 = _; rw [d1]
  have n2 : numL 2 = [32, 50] := by show 32 :: Lib.decDigits 2 = _; rw [d2]
  have c1 : cndL (-1) = [32, 33, 48] := by show 32 :: 33 :: Lib.decDigits 0 = _; rw [d0]
  unfold prnV
  rw [smallC_chk]
  simp [prn, smallC, prnOp, n0, n1, n2, c1, usesK, usesQ, usesB, wordOf]

set_option maxHeartbeats 2000000 in
set_option maxRecDepth 100000 in
theorem small_any (w : World) : Calls Tryd.prog 29 #[] w fun e w' => (∃ ao, e = .returned (.agg #[.int .i64 2, .int .i64 1, .slice ao 3 3]) ∧ OpsAt w' ao 3 smallC.ops) ∧ Ext w w' := by
  go_enter Tryd.func29, Tryd.ntmps29
  go_wp2_with fail
  obtain ⟨A1, hA1⟩ : ∃ A1, w.alloc (.cells #[.int .i64 2, .int .i64 1, .slice (some ⟨w.heap.size + 1 + 1 + 1, 0, none⟩) 3 3] 24) = A1 := ⟨_, rfl⟩
  rw [hA1]
  obtain ⟨A2, hA2⟩ : ∃ A2, A1.alloc (.cells #[.int .i64 0] 3) = A2 := ⟨_, rfl⟩
  rw [hA2]
  obtain ⟨A3, hA3⟩ : ∃ A3, A2.alloc (.cells #[.int .i64 (-1)] 3) = A3 := ⟨_, rfl⟩
  rw [hA3]
  obtain ⟨A4, hA4⟩ : ∃ A4, A3.alloc (.cells #[.int .i64 3, .int .i64 0, .slice none 0 0, .int .i64 0, .int .i64 0, .slice none 0 0, .int .i64 2, .int .i64 0, .slice (some ⟨w.heap.size + 1, 0, none⟩) 1 1, .int .i64 1, .int .i64 0, .slice none 0 0, .int .i64 5, .int .i64 0, .slice none 0 0, .int .i64 1, .int .i64 0, .slice (some ⟨w.heap.size + 1 + 1, 0, none⟩) 1 1] 43) = A4 := ⟨_, rfl⟩
  rw [hA4]
  have s1 : A1.heap.size = w.heap.size + 1 := by rw [← hA1]; simp
  have s2 : A2.heap.size = w.heap.size + 1 + 1 := by rw [← hA2]; simp [s1]
  have s3 : A3.heap.size = w.heap.size + 1 + 1 + 1 := by rw [← hA3]; simp [s2]
  have x1 : Ext w A1 := by rw [← hA1]; exact ext_al _ _
  have x2 : Ext A1 A2 := by rw [← hA2]; exact ext_al _ _
  have x3 : Ext A2 A3 := by rw [← hA3]; exact ext_al _ _
  have x4 : Ext A3 A4 := by rw [← hA4]; exact ext_al _ _
  have r1 : A1.heap[w.heap.size]? = some (.cells #[.int .i64 2, .int .i64 1, .slice (some ⟨w.heap.size + 1 + 1 + 1, 0, none⟩) 3 3] 24 (0, 0)) := by rw [← hA1]; exact heap_alloc_new w _
  have r2 : A2.heap[w.heap.size + 1]? = some (.cells #[.int .i64 0] 3 (0, 0)) := by rw [← hA2, ← s1]; exact heap_alloc_new A1 _
  have r3 : A3.heap[w.heap.size + 1 + 1]? = some (.cells #[.int .i64 (-1)] 3 (0, 0)) := by rw [← hA3, ← s2]; exact heap_alloc_new A2 _
  have r4 : A4.heap[w.heap.size + 1 + 1 + 1]? = some (.cells #[.int .i64 3, .int .i64 0, .slice none 0 0, .int .i64 0, .int .i64 0, .slice none 0 0, .int .i64 2, .int .i64 0, .slice (some ⟨w.heap.size + 1, 0, none⟩) 1 1, .int .i64 1, .int .i64 0, .slice none 0 0, .int .i64 5, .int .i64 0, .slice none 0 0, .int .i64 1, .int .i64 0, .slice (some ⟨w.heap.size + 1 + 1, 0, none⟩) 1 1] 43 (0, 0)) := by rw [← hA4, ← s3]; exact heap_alloc_new A3 _
  have r3' := (x4.block _ (Array.getElem?_eq_some_iff.1 r3).1).trans r3
  have x34 := x3.trans x4
  have r2' := (x34.block _ (Array.getElem?_eq_some_iff.1 r2).1).trans r2
  have x24 := x2.trans x34
  have r1' := (x24.block _ (Array.getElem?_eq_some_iff.1 r1).1).trans r1
  have E := x1.trans x24
  clear hA1 hA2 hA3 hA4 s1 s2 s3 x1 x2 x3 x4 x34 x24 r1 r2 r3
  have c0 : A4.cell? ⟨w.heap.size, 0, none⟩ = some (.int .i64 2) := by rw [cell_of_row A4 _ 0 _ _ (0, 0) r1']; rfl
  have c1 : A4.cell? ⟨w.heap.size, 1, none⟩ = some (.int .i64 1) := by rw [cell_of_row A4 _ 1 _ _ (0, 0) r1']; rfl
  have c2 : A4.cell? ⟨w.heap.size, 2, none⟩ = some (.slice (some ⟨w.heap.size + 1 + 1 + 1, 0, none⟩) 3 3) := by rw [cell_of_row A4 _ 2 _ _ (0, 0) r1']; rfl
  have l2 := (Array.getElem?_eq_some_iff.1 r2').1; have l3 := (Array.getElem?_eq_some_iff.1 r3').1; have l4 := (Array.getElem?_eq_some_iff.1 r4).1
  have I0 : IntsAt A4 none 0 [] := ⟨rfl, Or.inl rfl⟩
  have I1 : IntsAt A4 (some ⟨w.heap.size + 1, 0, none⟩) 1 [0] := by
    refine ⟨rfl, Or.inr ⟨_, _, rfl, l2, fun t ht => ?_⟩⟩
    obtain rfl : t = 0 := by omega
    rw [cell_of_row A4 _ _ _ _ (0, 0) r2']; rfl
  have I2 : IntsAt A4 (some ⟨w.heap.size + 1 + 1, 0, none⟩) 1 [-1] := by
    refine ⟨rfl, Or.inr ⟨_, _, rfl, l3, fun t ht => ?_⟩⟩
    obtain rfl : t = 0 := by omega
    rw [cell_of_row A4 _ _ _ _ (0, 0) r3']; rfl
  refine bodyPost_ret (v := .agg #[.int .i64 2, .int .i64 1, .slice (some ⟨w.heap.size + 1 + 1 + 1, 0, none⟩) 3 3]) (by simp [results, Tryd.results29, go_sem, c0, c1, c2]) rfl ⟨⟨_, rfl, rfl, Or.inr ⟨_, _, rfl, l4, ?_⟩⟩, E⟩
  intro t g hg
  have ht : t = 0 ∨ t = 1 ∨ t = 2 := by
    have : t < smallC.ops.length := (List.getElem?_eq_some_iff.1 hg).1
    have : smallC.ops.length = 3 := rfl
    omega
  rcases ht with rfl | rfl | rfl
  · have : g = ⟨3, 0, [], 0, 0, []⟩ := by simpa [smallC] using hg.symm
    subst this
    refine ⟨none, 0, 0, none, 0, 0, ?_, ?_, ?_, ?_, ?_, ?_, ⟨I0, by omega, by omega, I0, by omega, by omega⟩⟩ <;> (rw [cell_of_row A4 _ _ _ _ (0, 0) r4]; rfl)
  · have : g = ⟨2, 0, [0], 1, 0, []⟩ := by simpa [smallC] using hg.symm
    subst this
    refine ⟨_, 1, 1, none, 0, 0, ?_, ?_, ?_, ?_, ?_, ?_, ⟨I1, by omega, by omega, I0, by omega, by omega⟩⟩ <;> (rw [cell_of_row A4 _ _ _ _ (0, 0) r4]; rfl)
  · have : g = ⟨5, 0, [], 1, 0, [-1]⟩ := by simpa [smallC] using hg.symm
    subst this
    refine ⟨none, 0, 0, _, 1, 1, ?_, ?_, ?_, ?_, ?_, ?_, ⟨I0, by omega, by omega, I2, by omega, by omega⟩⟩ <;> (rw [cell_of_row A4 _ _ _ _ (0, 0) r4]; rfl)

set_option maxHeartbeats 2000000 in
set_option maxRecDepth 100000 in
/-- The example's text is as the document has it. -/
theorem circBegun_any (w : World) (hS : Shp w) : Calls Tryd.prog 9 #[] w fun e w' => e = .returned (.bool true) ∧ Ext w w' := by
  have HS := Lib.hid hS
  clear hS
  go_enter Tryd.func9, Tryd.ntmps9
  go_wp2_with fail
  refine (small_any w).mono ?_
  rintro e w1 ⟨⟨ao, rfl, hO⟩, hx1⟩
  have hP := Print_any smallC ao 3 3 w1 hO (by omega) (by omega) (HS.out.ext hx1)
  rw [smallC_chk, smallC_prn] at hP
  have HP := Lib.hid hP; have HX1 := Lib.hid hx1
  clear hP hO hx1
  go_wp2_with fail
  refine HP.out.mono ?_
  rintro e w2 ⟨rfl, hx2⟩
  have HE := Lib.hid ((HX1.out.trans hx2).trans (ext_al w2 (.cells #[.int .i64 0, .int .i64 0] 28)))
  clear hx2 HX1
  go_wp2
  go_ret
  exact ⟨rfl, HE.out⟩

end Go.Proofs.YtapolidgocfbjaaDoor
namespace Go.Proofs.YtapolidgocfbjaaDoor
open Go.RowKit

set_option maxHeartbeats 1000000 in
theorem sameInts_any (l : List Int) (a1 : Option Addr) (n c1 : Nat) (a2 : Option Addr) (c2 : Nat) (w : World) (h1 : IntsAt w a1 n l) (h2 : IntsAt w a2 n l) (hc1 : n ≤ c1) (hm1 : c1 ≤ 9223372036854775807) :
    Calls Tryd.prog 16 #[.slice a1 n c1, .slice a2 n c2] w fun e w' => e = .returned (.bool true) ∧ Ext w w' := by
  have H1 := Lib.hid h1; have H2 := Lib.hid h2
  clear h1 h2
  go_enter Tryd.func16, Tryd.ntmps16
  go_wp2_with fail
  go_loopg [5] n (fun kk s5 wx => ∃ i : Nat, s5 = .int .i64 (i : Int) ∧ i ≤ n ∧ n - i = kk ∧ Ext w wx)
  case atStart => exact ⟨0, rfl, by omega, by omega, Ext.refl w⟩
  case round =>
    obtain ⟨i, rfl, hi1, hk, hE⟩ := hrel
    have HE := Lib.hid hE
    by_cases hin : i = n
    · have h2 : ¬ (i : Int) < (n : Int) := by omega
      clear hE
      go_wp2_with fail
      go_ret
      exact ⟨rfl, HE.out⟩
    · have h2 : (i : Int) < (n : Int) := by omega
      have h0 : (0 : Int) ≤ (i : Int) := by omega
      obtain ⟨b1, o1, rfl, hb1, hc1'⟩ := (H1.out.ext hE).at (by omega)
      obtain ⟨b2, o2, rfl, hb2, hc2'⟩ := (H2.out.ext hE).at (by omega)
      have e1 := hc1' i (by omega); have e2 := hc2' i (by omega)
      obtain ⟨x, hx⟩ : ∃ x, l.getD i 0 = x := ⟨_, rfl⟩
      rw [hx] at e1 e2
      have HEd := Lib.hid (cdrew hE)
      clear hE hc1' hc2' hx
      go_wp2_with fail
      go_region
      go_wp2_with fail
      go_roundg (n - (i + 1))
      case measure => omega
      case rel => exact ⟨i + 1, by go_num, by omega, rfl, HEd.out⟩

set_option maxHeartbeats 4000000 in
set_option maxRecDepth 100000 in
theorem sameCircuit_any (c : Gci) (a1 : Option Addr) (n c1 : Nat) (a2 : Option Addr) (c2 : Nat) (w : World) (h1 : OpsAt w a1 n c.ops) (h2 : OpsAt w a2 n c.ops) (hn1 : n ≤ c1) (hm1 : c1 ≤ 9223372036854775807) (_hn2 : n ≤ c2) (_hm2 : c2 ≤ 9223372036854775807) :
    Calls Tryd.prog 15 #[.agg #[.int .i64 c.qubits, .int .i64 c.bits, .slice a1 n c1], .agg #[.int .i64 c.qubits, .int .i64 c.bits, .slice a2 n c2]] w fun e w' => e = .returned (.bool true) ∧ Ext w w' := by
  obtain ⟨qb, bi, ops⟩ := c
  simp only at h1 h2 ⊢
  obtain ⟨A1, hA1⟩ : ∃ A1, w.alloc (.cells #[.int .i64 qb, .int .i64 bi, .slice a1 n c1] 24) = A1 := ⟨_, rfl⟩
  obtain ⟨A2, hA2⟩ : ∃ A2, A1.alloc (.cells #[.int .i64 qb, .int .i64 bi, .slice a2 n c2] 24) = A2 := ⟨_, rfl⟩
  have s1 : A1.heap.size = w.heap.size + 1 := by rw [← hA1]; simp
  have x1 : Ext w A1 := by rw [← hA1]; exact ext_al _ _
  have x2 : Ext A1 A2 := by rw [← hA2]; exact ext_al _ _
  have bC : CiB A2 w.heap.size qb bi a1 n c1 := by
    have : CiB A1 w.heap.size qb bi a1 n c1 := by rw [← hA1]; exact ⟨heap_alloc_new w _⟩
    exact this.ext x2
  have bD : CiB A2 (w.heap.size + 1) qb bi a2 n c2 := by rw [← hA2, ← s1]; exact ⟨heap_alloc_new A1 _⟩
  have hA : (w.alloc (.cells #[.int .i64 qb, .int .i64 bi, .slice a1 n c1] 24)).alloc (.cells #[.int .i64 qb, .int .i64 bi, .slice a2 n c2] 24) = A2 := by rw [hA1, hA2]
  have E0 := x1.trans x2
  have m0 := bC.x0; have m1 := bC.x1; have m2 := bC.x2; have k0 := bD.x0; have k1 := bD.x1; have k2 := bD.x2
  rw [← hA] at m0 m1 m2 k0 k1 k2
  have HA := Lib.hid hA; have HC := Lib.hid bC; have HD := Lib.hid bD; have HE0 := Lib.hid E0
  have H1 := Lib.hid h1; have H2 := Lib.hid h2; have Hl := Lib.hid h1.1
  clear h1 h2 hA1 hA2 s1 x1 x2 bC bD hA E0
  go_enter Tryd.func15, Tryd.ntmps15
  go_wp2_with fail
  rw [HA.out]
  clear m0 m1 m2 k0 k1 k2
  go_loopg [5] n (fun kk s5 wx => ∃ i : Nat, s5 = .int .i64 (i : Int) ∧ i ≤ n ∧ n - i = kk ∧ Ext A2 wx)
  case atStart => exact ⟨0, rfl, by omega, by omega, Ext.refl A2⟩
  case round =>
    obtain ⟨i, rfl, hi1, hk, hE⟩ := hrel
    have m2 := (HC.out.ext hE).x2; have k2 := (HD.out.ext hE).x2
    by_cases hin : i = n
    · have h2 : ¬ (i : Int) < (n : Int) := by omega
      have HE := Lib.hid (HE0.out.trans hE)
      clear hE
      go_wp2_with fail
      go_ret
      exact ⟨rfl, HE.out⟩
    · have h2 : (i : Int) < (n : Int) := by omega
      have h0 : (0 : Int) ≤ (i : Int) := by omega
      obtain ⟨b, o, rfl⟩ := H1.out.some_of (by omega)
      obtain ⟨b', o', rfl⟩ := H2.out.some_of (by omega)
      obtain ⟨g, hg⟩ : ∃ g, ops[i]? = some g := ⟨_, List.getElem?_eq_getElem (by rw [Hl.out]; omega)⟩
      obtain ⟨p1, q1, r1, p2, q2, r2, e0, e1, e2, e3, e4, e5, hL⟩ := ((H1.out.ext HE0.out).ext hE).at i g hg
      obtain ⟨p1', q1', r1', p2', q2', r2', d0, d1, d2, d3, d4, d5, hL'⟩ := ((H2.out.ext HE0.out).ext hE).at i g hg
      have hq1 := hL.i1.1.symm.trans hL'.i1.1; have hq2 := hL.i2.1.symm.trans hL'.i2.1
      subst hq1; subst hq2
      have Ea := ext_al wr (.cells #[.int .i64 g.kind, .int .i64 g.k, .slice p1 q1 r1, .int .i64 g.q, .int .i64 g.bit, .slice p2 q2 r2] 43)
      have bO := opbx_new wr g.kind g.k p1 q1 r1 g.q g.bit p2 q2 r2
      obtain ⟨X1, hX1⟩ : ∃ X, wr.alloc (.cells #[.int .i64 g.kind, .int .i64 g.k, .slice p1 q1 r1, .int .i64 g.q, .int .i64 g.bit, .slice p2 q2 r2] 43) = X := ⟨_, rfl⟩
      have sX : X1.heap.size = wr.heap.size + 1 := by rw [← hX1]; simp
      rw [hX1] at Ea bO
      have Eb := ext_al X1 (.cells #[.int .i64 g.kind, .int .i64 g.k, .slice p1' q1 r1', .int .i64 g.q, .int .i64 g.bit, .slice p2' q2 r2'] 43)
      have bP := opbx_new X1 g.kind g.k p1' q1 r1' g.q g.bit p2' q2 r2'
      rw [sX] at bP
      obtain ⟨X2, hX2⟩ : ∃ X, X1.alloc (.cells #[.int .i64 g.kind, .int .i64 g.k, .slice p1' q1 r1', .int .i64 g.q, .int .i64 g.bit, .slice p2' q2 r2'] 43) = X := ⟨_, rfl⟩
      rw [hX2] at Eb bP
      have bO2 := bO.ext Eb
      have EX := Ea.trans Eb
      have HXX : Hid ((wr.alloc (.cells #[.int .i64 g.kind, .int .i64 g.k, .slice p1 q1 r1, .int .i64 g.q, .int .i64 g.bit, .slice p2 q2 r2] 43)).alloc (.cells #[.int .i64 g.kind, .int .i64 g.k, .slice p1' q1 r1', .int .i64 g.q, .int .i64 g.bit, .slice p2' q2 r2'] 43) = X2) := by show _ = _; rw [hX1, hX2]
      have d0' := cell_ext d0 Ea; have d1' := cell_ext d1 Ea; have d2' := cell_ext d2 Ea; have d3' := cell_ext d3 Ea; have d4' := cell_ext d4 Ea; have d5' := cell_ext d5 Ea
      have k2' := cell_ext k2 Ea
      rw [← hX1] at d0' d1' d2' d3' d4' d5' k2'
      have HS1 := Lib.hid (fun wx (hx : Ext X2 wx) => sameInts_any g.ctl p1 q1 r1 p1' r1' wx ((hL.i1.ext EX).ext hx) ((hL'.i1.ext EX).ext hx) hL.h1 hL.m1)
      have HS2 := Lib.hid (fun wx (hx : Ext X2 wx) => sameInts_any g.cnd p2 q2 r2 p2' r2' wx ((hL.i2.ext EX).ext hx) ((hL'.i2.ext EX).ext hx) hL.h2 hL.m2)
      obtain ⟨kd, kk', ctl, qq, bb, cnd⟩ := g
      simp only at e0 e1 e2 e3 e4 e5 d0' d1' d2' d3' d4' d5' k2' bO2 bP HXX HS1 HS2
      have p_0 := bO2.x0; have p_1 := bO2.x1; have p_2 := bO2.x2; have p_3 := bO2.x3; have p_4 := bO2.x4; have p_5 := bO2.x5
      have q_0 := bP.x0; have q_1 := bP.x1; have q_2 := bP.x2; have q_3 := bP.x3; have q_4 := bP.x4; have q_5 := bP.x5
      rw [← HXX.out] at p_0 p_1 p_2 p_3 p_4 p_5 q_0 q_1 q_2 q_3 q_4 q_5
      have HbO := Lib.hid bO2; have HbP := Lib.hid bP
      have HEX := Lib.hid (hE.trans EX)
      clear hg hL hL' d0 d1 d2 d3 d4 d5 Ea Eb bO bP bO2 hX1 hX2 sX EX hE k2
      go_wp2_with fail
      rw [HXX.out]
      refine (HS1.out X2 (Ext.refl X2)).mono ?_
      rintro e w5 ⟨rfl, hx5⟩
      have p_5 := (HbO.out.ext hx5).x5; have q_5 := (HbP.out.ext hx5).x5
      have HX5 := Lib.hid hx5
      clear hx5
      go_wp2_with fail
      refine (HS2.out w5 HX5.out).mono ?_
      rintro e w6 ⟨rfl, hx6⟩
      have HE6 := Lib.hid ((HEX.out.trans HX5.out).trans hx6)
      clear hx6
      go_wp2_with fail
      go_roundg (n - (i + 1))
      case measure => omega
      case rel => exact ⟨i + 1, by go_num, by omega, rfl, HE6.out⟩

end Go.Proofs.YtapolidgocfbjaaDoor
namespace Go.Proofs.YtapolidgocfbjaaDoor
open Go.RowKit

set_option maxHeartbeats 2000000 in
set_option maxRecDepth 100000 in
theorem answers_any (c : Gci) (a1 : Option Addr) (n c1 : Nat) (a2 : Option Addr) (c2 : Nat) (u v : Int) (w : World) (h1 : OpsAt w a1 n c.ops) (h2 : OpsAt w a2 n c.ops) (hn1 : n ≤ c1) (hm1 : c1 ≤ 9223372036854775807) (hn2 : n ≤ c2) (hm2 : c2 ≤ 9223372036854775807) :
    Calls Tryd.prog 10 #[.agg #[.int .i64 c.qubits, .int .i64 c.bits, .slice a1 n c1], .agg #[.int .i64 u, .int .i64 v], .agg #[.int .i64 c.qubits, .int .i64 c.bits, .slice a2 n c2], .agg #[.int .i64 u, .int .i64 v]] w fun e w' => e = .returned (.bool true) ∧ Ext w w' := by
  obtain ⟨qb, bi, ops⟩ := c
  simp only at h1 h2 ⊢
  obtain ⟨A1, hA1⟩ : ∃ A1, w.alloc (.cells #[.int .i64 qb, .int .i64 bi, .slice a1 n c1] 24) = A1 := ⟨_, rfl⟩
  obtain ⟨A2, hA2⟩ : ∃ A2, A1.alloc (.cells #[.int .i64 u, .int .i64 v] 28) = A2 := ⟨_, rfl⟩
  obtain ⟨A3, hA3⟩ : ∃ A3, A2.alloc (.cells #[.int .i64 qb, .int .i64 bi, .slice a2 n c2] 24) = A3 := ⟨_, rfl⟩
  obtain ⟨A4, hA4⟩ : ∃ A4, A3.alloc (.cells #[.int .i64 u, .int .i64 v] 28) = A4 := ⟨_, rfl⟩
  have hA : (((w.alloc (.cells #[.int .i64 qb, .int .i64 bi, .slice a1 n c1] 24)).alloc (.cells #[.int .i64 u, .int .i64 v] 28)).alloc (.cells #[.int .i64 qb, .int .i64 bi, .slice a2 n c2] 24)).alloc (.cells #[.int .i64 u, .int .i64 v] 28) = A4 := by rw [hA1, hA2, hA3, hA4]
  have E4 : Ext w A4 := by rw [← hA4, ← hA3, ← hA2, ← hA1]; exact (((ext_al _ _).trans (ext_al _ _)).trans (ext_al _ _)).trans (ext_al _ _)
  have HSc := Lib.hid (sameCircuit_any ⟨qb, bi, ops⟩ a1 n c1 a2 c2 A4 (h1.ext E4) (h2.ext E4) hn1 hm1 hn2 hm2)
  have HA := Lib.hid hA; have HE := Lib.hid E4
  clear h1 h2 hA1 hA2 hA3 hA4 hA E4
  simp only at HSc
  go_enter Tryd.func10, Tryd.ntmps10
  go_wp2_with fail
  rw [HA.out]
  refine HSc.out.mono ?_
  rintro e w1 ⟨rfl, hx1⟩
  have HX := Lib.hid (HE.out.trans hx1)
  clear hx1
  go_wp2_with fail
  go_ret
  exact ⟨rfl, HX.out⟩

end Go.Proofs.YtapolidgocfbjaaDoor
namespace Go.Proofs.YtapolidgocfbjaaDoor
open Go.RowKit

theorem answers_N (g : Gci) (b1 b2 : Nat) (a1 : Option Addr) (m1 c1 : Nat) (a2 : Option Addr) (m2 c2 : Nat) (u v : Int) (w : World) (h1 : OpsN w b1 (.slice a1 m1 c1) g.ops) (h2 : OpsN w b2 (.slice a2 m2 c2) g.ops) :
    Calls Tryd.prog 10 #[.agg #[.int .i64 g.qubits, .int .i64 g.bits, .slice a1 m1 c1], .agg #[.int .i64 u, .int .i64 v], .agg #[.int .i64 g.qubits, .int .i64 g.bits, .slice a2 m2 c2], .agg #[.int .i64 u, .int .i64 v]] w fun e w' => e = .returned (.bool true) ∧ Ext w w' := by
  obtain ⟨p1, p2, p3, p4⟩ := h1.at
  obtain ⟨q1, q2, q3, q4⟩ := h2.at
  obtain rfl : m1 = m2 := p1.symm.trans q1
  exact answers_any g a1 m1 c1 a2 c2 u v w p4 q4 p2 p3 q2 q3

end Go.Proofs.YtapolidgocfbjaaDoor
