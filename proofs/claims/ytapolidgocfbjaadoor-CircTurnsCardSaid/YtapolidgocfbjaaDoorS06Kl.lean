/-
  The reference's Inverse. The reference's Then. The reference's Inverse and Power of a circuit that is not pure. A copy of a circuit in memory of its own: as the reference makes it, and as the program does. slices.Reverse of operations in memory of their own.
-/
import Derived.Test.YtapolidgocfbjaaDoorProg
import Derived.Test.YtapolidgocfbjaaDoorRows
import Derived.BigQuiet
import Derived.Deep.AppendLies
import Derived.Deep.Cut
import Derived.Deep.CutRange
import Derived.Deep.LoopGhost
import Derived.Deep.QuietTactic
import Derived.Deep.RegionHeld3
import Derived.Defers
import Derived.Laws.Bits64b
import Derived.Laws.Concat
import Derived.Laws.CopyOwn
import Derived.Laws.IdiomStrings
import Derived.Laws.ResultCell
import Derived.Lib.AppendStr
import Derived.Lib.BitFns
import Derived.Lib.Hide
import Derived.Lib.ItoaMem
import Derived.Lib.ItoaNum
import Derived.Lib.Strings
import Derived.Maps.AppendAt
import Derived.OwnWalk
import Derived.Recover
import Derived.Shelf.LaysM
import Derived.Shelf.Strconv.Itoa0
import Derived.Shelf.Strconv.Itoa1
import Derived.Shelf.Strconv.Itoa2
import Derived.Shelf.Strconv.Itoa3
import Derived.Shelf.Strings.Builder1
import Derived.Shelf.Strings.BuilderF
import Derived.Shelf.Strings.BuilderK
import Derived.WalkKit
import Derived.WalkLawsBesides
import Derived.WalkSpells
import Derived.Test.YtapolidgocfbjaaDoorS00Ce
import Derived.Test.YtapolidgocfbjaaDoorS01Cj
import Derived.Test.YtapolidgocfbjaaDoorShelf
import Derived.Test.YtapolidgocfbjaaDoorS03Cq
import Derived.Test.YtapolidgocfbjaaDoorS04Ka
import Derived.Test.YtapolidgocfbjaaDoorS05Jj
namespace Go.Proofs.YtapolidgocfbjaaDoor
open Go.RowKit

theorem ext_only {w U W : World} {k : Nat} (h : Ext w U) (hO : Only k U W) (hk : w.heap.size ≤ k) : Ext w W :=
  Below.trans h ⟨hO.os, hO.tape, hO.output, Nat.le_of_eq hO.size.symm, fun i hi => hO.block i (by omega)⟩
theorem CiB.kept {w w' : World} {k g : Nat} {qb bi : Int} {ao : Option Addr} {n cp : Nat} (h : CiB w g qb bi ao n cp) (hO : Only k w w') (hk : g ≠ k) : CiB w' g qb bi ao n cp := ⟨(hO.block g hk).trans h.row⟩
theorem FtB.kept {w w' : World} {k g : Nat} {x y : Int} (h : FtB w g x y) (hO : Only k w w') (hk : g ≠ k) : FtB w' g x y := ⟨(hO.block g hk).trans h.row⟩
theorem FtB_grown {a w' : World} {v : Value} {base g : Nat} {e : TypeId} {x y : Int} (hg : a.grownBy w' v.ownBlock) (hk : ∀ k, v.ownBlock = some k → base ≤ k ∧ ∃ cs fr, a.heap[k]? = some (.cells cs e fr)) (h : FtB a g x y) (hb : g < base) : FtB w' g x y :=
  ⟨(hg.block g h.lt (fun e => by have := (hk g e.symm).1; omega)).trans h.row⟩
theorem CiB_grownK {a w' : World} {v : Value} {base g : Nat} {qb bi : Int} {ao : Option Addr} {n cp : Nat} (hg : a.grownBy w' v.ownBlock) (hk : ∀ k, v.ownBlock = some k → base ≤ k ∧ ∃ cs fr, a.heap[k]? = some (.cells cs 43 fr)) (h : CiB a g qb bi ao n cp) : CiB w' g qb bi ao n cp :=
  ⟨(hg.block g h.lt (fun e => by obtain ⟨_, cs, fr, e2⟩ := hk g e.symm; rw [h.row] at e2; cases e2)).trans h.row⟩
theorem FtB_grownK {a w' : World} {v : Value} {base g : Nat} {x y : Int} (hg : a.grownBy w' v.ownBlock) (hk : ∀ k, v.ownBlock = some k → base ≤ k ∧ ∃ cs fr, a.heap[k]? = some (.cells cs 43 fr)) (h : FtB a g x y) : FtB w' g x y :=
  ⟨(hg.block g h.lt (fun e => by obtain ⟨_, cs, fr, e2⟩ := hk g e.symm; rw [h.row] at e2; cases e2)).trans h.row⟩
theorem only2 (W : World) (A : Nat) (u v : Value) : Only A W ((W.setCell ⟨A, 0, none⟩ u).setCell ⟨A, 1, none⟩ v) := ((Only.refl _ _).setCell _ _).setCell _ _
theorem OpBx.set1 {W : World} {g : Nat} {k0 k1 : Int} {a1 : Option Addr} {n1 c1 : Nat} {k3 k4 : Int} {a2 : Option Addr} {n2 c2 : Nat} (h : OpBx W g k0 k1 a1 n1 c1 k3 k4 a2 n2 c2) (z : Int) : OpBx (W.setCell ⟨g, 1, none⟩ (.int .i64 z)) g k0 z a1 n1 c1 k3 k4 a2 n2 c2 := ⟨heap_setCell_same W g 1 _ _ (.int .i64 z) h.row⟩
theorem slice_of_own {w : World} {base : Nat} {e : TypeId} {size : Nat} {v : Value} {n : Nat} {xs : List Value} (h : w.ownsRow base e size v n xs) (hn : 0 < n) : ∃ g c, v = .slice (some ⟨g, 0, none⟩) n c := by
  rcases h.2 with ⟨_, h0⟩ | ⟨g, cap, _, hv, _⟩
  · omega
  · exact ⟨g, cap, hv⟩
/-- Blocks of ints are as they were where a row of operations has grown. -/
theorem grown_ints {a w' : World} {v : Value} {base : Nat} (hg : a.grownBy w' v.ownBlock) (hk : ∀ k, v.ownBlock = some k → base ≤ k ∧ ∃ cs fr, a.heap[k]? = some (.cells cs 43 fr)) : ∀ (b : Nat) (cur : Array Value) (fr : Nat × Nat), a.heap[b]? = some (.cells cur 3 fr) → w'.heap[b]? = a.heap[b]? := fun b' cur fr hb' => by
  refine hg.block b' (Array.getElem?_eq_some_iff.1 hb').1 (fun e => ?_)
  obtain ⟨_, cs, fr', e2⟩ := hk b' e.symm
  rw [e2] at hb'
  cases hb'
theorem invO_len (ops : List Gop) : (invO ops).length = ops.length := by unfold invO; rw [List.length_map, List.length_reverse]
theorem invO_get {ops : List Gop} {j m : Nat} (h : j + m + 1 = ops.length) : (invO ops)[j]? = ops[m]?.map undoO := by
  unfold invO
  rw [List.getElem?_map, List.getElem?_reverse (by omega), show ops.length - 1 - j = m by omega]

set_option maxHeartbeats 8000000 in
set_option maxRecDepth 100000 in
theorem RInverse_yes (c : Gci) (ao : Option Addr) (n cp : Nat) (w : World) (h : OpsAt w ao n c.ops) (hn : n ≤ cp) (hcp : cp ≤ 9223372036854775807) (hp : (pur c).1 = 0) :
    Calls Tryd.prog 8 #[.agg #[.int .i64 c.qubits, .int .i64 c.bits, .slice ao n cp]] w fun e w' => (∃ (a' : Option Addr) (c' : Nat), e = .returned (.tuple #[.agg #[.int .i64 c.qubits, .int .i64 c.bits, .slice a' n c'], .agg #[.int .i64 0, .int .i64 0]]) ∧ OpsN w' w.heap.size (.slice a' n c') (invO c.ops)) ∧ Ext w w' := by
  obtain ⟨hck, hpz⟩ := pur_zero hp
  obtain ⟨hz, hq1, hq2, hb1, hb2, hl4, hop⟩ := chk_zero hck
  obtain ⟨i0, hi, hz0, hz1, hz2⟩ := info_parts op_info
  have hfit : ∀ g ∈ c.ops, (g.ctl.length ≤ 1000 ∧ g.cnd.length ≤ 1000) ∧ 0 ≤ g.k ∧ g.k ≤ 15 := fun g hg => by
    have f := prFit_of_code hq2 hb1 hb2 (hop g hg)
    exact ⟨⟨Nat.le_trans f.few (by decide), Nat.le_trans f.cfew (by decide)⟩, opk_range (hop g hg)⟩
  have hl : c.ops.length = n := h.1
  rw [hl] at hl4
  obtain ⟨qb, bi, ops⟩ := c
  simp only at hfit hl h ⊢
  obtain ⟨H, hH⟩ : ∃ H, w.heap.size = H := ⟨_, rfl⟩
  obtain ⟨A1, hA1⟩ : ∃ A1, w.alloc (.cells #[.int .i64 qb, .int .i64 bi, .slice ao n cp] 24) = A1 := ⟨_, rfl⟩
  obtain ⟨A2, hA2⟩ : ∃ A2, A1.alloc (.cells #[.int .i64 0, .int .i64 0, .slice none 0 0] 24) = A2 := ⟨_, rfl⟩
  obtain ⟨A3, hA3⟩ : ∃ A3, A2.alloc (.cells #[.int .i64 0, .int .i64 0] 28) = A3 := ⟨_, rfl⟩
  have s1 : A1.heap.size = H + 1 := by rw [← hA1, ← hH]; simp
  have s2 : A2.heap.size = H + 2 := by rw [← hA2]; simp; omega
  have s3 : A3.heap.size = H + 3 := by rw [← hA3]; simp; omega
  have x1 : Ext w A1 := by rw [← hA1]; exact ext_al _ _
  have x2 : Ext A1 A2 := by rw [← hA2]; exact ext_al _ _
  have x3 : Ext A2 A3 := by rw [← hA3]; exact ext_al _ _
  have bC : CiB A3 H qb bi ao n cp := by
    have : CiB A1 H qb bi ao n cp := by rw [← hA1, ← hH]; exact ⟨heap_alloc_new w _⟩
    exact (this.ext x2).ext x3
  have bR : CiB A3 (H + 1) 0 0 none 0 0 := by
    have : CiB A2 (H + 1) 0 0 none 0 0 := by rw [← hA2, ← s1]; exact ⟨heap_alloc_new A1 _⟩
    exact this.ext x3
  have bF : FtB A3 (H + 2) 0 0 := by rw [← hA3, ← s2]; exact ⟨heap_alloc_new A2 _⟩
  have E0 : Ext w A3 := (x1.trans x2).trans x3
  have hA : ((w.alloc (.cells #[.int .i64 qb, .int .i64 bi, .slice ao n cp] 24)).alloc (.cells #[.int .i64 0, .int .i64 0, .slice none 0 0] 24)).alloc (.cells #[.int .i64 0, .int .i64 0] 28) = A3 := by rw [hA1, hA2, hA3]
  have HK := Lib.hid (RPure_any ⟨qb, bi, ops⟩ ao n cp A3 (h.ext E0) hn hcp)
  rw [hpz] at HK
  simp only at HK
  have m0 := bC.x0; have m1 := bC.x1; have m2 := bC.x2
  rw [← hA] at m0 m1 m2
  have HA := Lib.hid hA; have HE0 := Lib.hid E0; have HC := Lib.hid bC; have HR := Lib.hid bR; have HFt := Lib.hid bF
  have Hops := Lib.hid h; have Hfit := Lib.hid hfit; have Hl := Lib.hid hl; have Hs3 := Lib.hid s3; have HhH := Lib.hid hH
  obtain ⟨n1, hn1⟩ : ∃ y : Int, (n : Int) - 1 = y := ⟨_, rfl⟩
  have wn1 : IntKind.i64.wrap ((n : Int) - 1) = n1 := by rw [IntKind.wrap_i64]; omega
  have Hn1 := Lib.hid hn1
  clear h hpz E0 bC bR bF x1 x2 x3 s1 s2 s3 hA1 hA2 hA3 hA hfit hl hck hz hq1 hq2 hb1 hb2 hop hp hn1
  go_enter Tryd.func8, Tryd.ntmps8
  go_wp2_with fail
  rw [HA.out]
  refine HK.out.mono ?_
  rintro e w1 ⟨rfl, hx1⟩
  have Ef := ext_al w1 (.cells #[.int .i64 0, .int .i64 0] 28)
  have EO := ext_al (w1.alloc (.cells #[.int .i64 0, .int .i64 0] 28)) (.cells #[.int .i64 qb, .int .i64 bi, .slice none 0 0] 24)
  have bf1 : FtB (w1.alloc (.cells #[.int .i64 0, .int .i64 0] 28)) w1.heap.size 0 0 := ⟨heap_alloc_new w1 _⟩
  have hszA : (w1.alloc (.cells #[.int .i64 0, .int .i64 0] 28)).heap.size = w1.heap.size + 1 := by simp
  have bOc : CiB ((w1.alloc (.cells #[.int .i64 0, .int .i64 0] 28)).alloc (.cells #[.int .i64 qb, .int .i64 bi, .slice none 0 0] 24)) (w1.heap.size + 1) qb bi none 0 0 := by rw [← hszA]; exact ⟨heap_alloc_new _ _⟩
  have q0 := bf1.x0; have q1 := bf1.x1
  have hX := hx1.trans Ef
  have bC1 := HC.out.ext hX
  have y0 := bC1.x0; have y1 := bC1.x1; have y2 := bC1.x2
  have z2 := (bC1.ext EO).x2
  have HC2 := Lib.hid (bC1.ext EO); have HR2 := Lib.hid ((HR.out.ext hX).ext EO); have HF2 := Lib.hid ((HFt.out.ext hX).ext EO); have HE2 := Lib.hid ((HE0.out.trans hX).trans EO); have Hf2 := Lib.hid (bf1.ext EO); have HO2 := Lib.hid bOc
  have hlo : H + 3 ≤ w1.heap.size := by have := hx1.size; have := Hs3.out; omega
  have Hlo := Lib.hid hlo
  have Hsz2 := Lib.hid (show ((w1.alloc (.cells #[.int .i64 0, .int .i64 0] 28)).alloc (.cells #[.int .i64 qb, .int .i64 bi, .slice none 0 0] 24)).heap.size = w1.heap.size + 2 by simp)
  clear hx1 Ef EO bf1 hX bC1 HK HC HR HFt HE0 m0 m1 m2 hszA bOc hlo
  go_wp2_with fail
  generalize (w1.alloc (.cells #[.int .i64 0, .int .i64 0] 28)).alloc (.cells #[.int .i64 qb, .int .i64 bi, .slice none 0 0] 24) = W2 at *
  obtain ⟨Fb, hFb⟩ : ∃ y, w1.heap.size = y := ⟨_, rfl⟩
  rw [hFb] at HO2 Hf2 Hlo Hsz2 ⊢
  obtain ⟨Ob, hOb⟩ : ∃ y, Fb + 1 = y := ⟨_, rfl⟩
  rw [hOb] at HO2 ⊢
  have nF1 : Fb ≠ H + 1 := by have := Hlo.out; omega
  have nF2 : Fb ≠ H + 2 := by have := Hlo.out; omega
  have nO1 : Ob ≠ H + 1 := by have := Hlo.out; omega
  have nO2 : Ob ≠ H + 2 := by have := Hlo.out; omega
  have nOF : Ob ≠ Fb := by omega
  have nOH : Ob ≠ H := by have := Hlo.out; omega
  have HOb := Lib.hid hOb
  clear q0 q1 y0 y1 y2 z2 hFb hOb
  go_loopg [6, 7] n (fun kk s6 s7 wx => ∃ (j : Nat) (i : Int) (av : Option Addr) (cv : Nat), s6 = .int .i64 i ∧ i = n1 - (j : Int) ∧ j ≤ n ∧ n - j = kk ∧ CiB wx H qb bi ao n cp ∧ CiB wx (H + 1) 0 0 none 0 0 ∧ FtB wx (H + 2) 0 0 ∧ FtB wx Fb 0 0 ∧ CiB wx Ob qb bi av j cv ∧ OpsN wx (Ob + 1) (.slice av j cv) ((invO ops).take j) ∧ Ext w wx ∧ Ob + 1 ≤ wx.heap.size)
  case atStart => exact ⟨0, n1, none, 0, rfl, by omega, by omega, by omega, HC2.out, HR2.out, HF2.out, Hf2.out, HO2.out, OpsN.nil _ _, HE2.out, by have := Hsz2.out; have := HOb.out; omega⟩
  case round =>
    clear HC2 HR2 HF2 Hf2 HO2 HE2
    obtain ⟨j, i, av, cv, rfl, hij, hjn, hk, bC, bR, bF, bf, bO, hown, hX, hbs⟩ := hrel
    have hn1 := Hn1.out
    by_cases hin : j = n
    · have q1 : ¬ (0 : Int) ≤ i := by omega
      have q1' : decide ((0 : Int) ≤ i) = false := df q1
      subst hin
      rw [List.take_of_length_le (by rw [invO_len, Hl.out]; omega)] at hown
      have y0 := bO.x0; have y1 := bO.x1; have y2 := bO.x2
      have r0 := bR.x0; have r1 := bR.x1; have r2 := bR.x2; have g0 := bR.f 0; have g1 := bR.f 1; have g2 := bR.f 2
      have f0 := bF.x0; have f1 := bF.x1; have k0 := bF.f 0; have k1 := bF.f 1
      have d0 := bf.x0; have d1 := bf.x1
      have zC := (putCF_C bR (show H + 1 ≠ H + 2 by omega) qb bi av j cv 0 0).drew
      have zF := (putCF_F bF (show H + 1 ≠ H + 2 by omega) qb bi av j cv 0 0).drew
      obtain ⟨xs, hx⟩ := hown
      have hP1 : Only (H + 1) wr (((wr.setCell ⟨H + 1, 0, none⟩ (.int .i64 qb)).setCell ⟨H + 1, 1, none⟩ (.int .i64 bi)).setCell ⟨H + 1, 2, none⟩ (.slice av j cv)) := (((Only.refl _ _).setCell _ _).setCell _ _).setCell _ _
      have hx1 := hx.only bR.row (by decide) hP1 (by have := HOb.out; have := Hlo.out; omega)
      have bF1 := bF.kept hP1 (by omega)
      have hx2 := hx1.only bF1.row (by decide) (only2 _ (H + 2) (.int .i64 0) (.int .i64 0)) (by have := HOb.out; have := Hlo.out; omega)
      have zO : OpsN (putCF wr (H + 1) (H + 2) qb bi av j cv 0 0).drew (Ob + 1) (.slice av j cv) (invO ops) := OpsN.ext ⟨xs, hx2⟩ (cdrew (Ext.refl _))
      have zE : Ext w (putCF wr (H + 1) (H + 2) qb bi av j cv 0 0).drew := Below.drew (putCF_ext hX (show w.heap.size ≤ H + 1 by omega) (show w.heap.size ≤ H + 2 by omega) _ _ _ _ _ _ _)
      obtain ⟨Wz, hWz⟩ : ∃ Wz, putCF wr (H + 1) (H + 2) qb bi av j cv 0 0 = Wz := ⟨_, rfl⟩
      rw [hWz] at zC zF zO zE
      unfold putCF at hWz
      have HWz := Lib.hid hWz; have HzE := Lib.hid zE; have HzO := Lib.hid (zO.down (show H ≤ Ob + 1 by have := HOb.out; have := Hlo.out; omega))
      have v0 := zC.x0; have v1 := zC.x1; have v2 := zC.x2; have v3 := zF.x0; have v4 := zF.x1
      clear zC zF zO zE hWz bC bR bF bf bO hX hx hx1 hx2 hP1 bF1 hjn hk hbs hij hn1
      go_upto_region 12 with fail
      go_region
      go_wp2_with fail
      rw [HWz.out]
      exact bodyPost_ret (v := .tuple #[.agg #[.int .i64 qb, .int .i64 bi, .slice av j cv], .agg #[.int .i64 0, .int .i64 0]]) (by simp [results, Tryd.results8, go_sem, v0, v1, v2, v3, v4]) rfl ⟨⟨av, cv, rfl, HzO.out⟩, HzE.out⟩
    · obtain ⟨m, rfl⟩ : ∃ m : Nat, i = (m : Int) := ⟨i.toNat, by omega⟩
      have q1 : (0 : Int) ≤ (m : Int) := by omega
      have q1' : decide ((0 : Int) ≤ (m : Int)) = true := dt q1
      have q2 : (m : Int) < (n : Int) := by omega
      obtain ⟨gg, hg⟩ : ∃ g, ops[m]? = some g := ⟨_, List.getElem?_eq_getElem (by rw [Hl.out]; omega)⟩
      have hst : (invO ops).take (j + 1) = (invO ops).take j ++ [undoO gg] := by rw [List.take_add_one, invO_get (m := m) (by rw [Hl.out]; omega), hg]; rfl
      have hli : ((invO ops).take j).length = j := by rw [List.length_take, invO_len, Hl.out]; omega
      obtain ⟨bo, oo, rfl⟩ := (Hops.out.ext hX).some_of (by omega)
      obtain ⟨a1, m1, c1, a2, m2, c2, t0, t1, t2, t3, t4, t5, hLo⟩ := (Hops.out.ext hX).at m gg hg
      obtain ⟨⟨hbl1, hbl2⟩, hkr⟩ := Hfit.out gg (List.mem_of_getElem? hg)
      obtain ⟨ok, hok⟩ : ∃ x, opp gg.k = x := ⟨_, rfl⟩
      have Hok := Lib.hid hok
      have hokE := opp_eq hkr
      rw [hok] at hokE
      have hug : undoO gg = ⟨gg.kind, ok, gg.ctl, gg.q, gg.bit, gg.cnd⟩ := by unfold undoO; rw [hok]
      rw [hug] at hst
      obtain ⟨kd, kk', ctl, qq, bb, cnd⟩ := gg
      simp only at t0 t1 t3 t4 hbl1 hbl2 hkr hokE hst
      have hn1' : m1 ≤ 1000 := by rw [← hLo.i1.1]; exact hbl1
      have hn2' : m2 ≤ 1000 := by rw [← hLo.i2.1]; exact hbl2
      have HCp := Lib.hid (copyOp_N ⟨kd, kk', ctl, qq, bb, cnd⟩ a1 m1 c1 a2 m2 c2 wr hLo (by omega) (by omega))
      simp only at HCp
      have v2 := bC.x2
      have HC := Lib.hid bC; have HR := Lib.hid bR; have HF := Lib.hid bF; have Hf := Lib.hid bf; have HO := Lib.hid bO; have HXr := Lib.hid hX; have Hbs := Lib.hid hbs; have Hst := Lib.hid hst; have Hli := Lib.hid hli; have Hkr := Lib.hid hkr; have HokE := Lib.hid hokE; have Hown := Lib.hid hown; have Hij := Lib.hid hij; have Hk := Lib.hid hk
      clear bC bR bF bf bO hX hbs hst hli hkr hokE hown hLo hbl1 hbl2 hug hg Hok hok hij hk
      go_wp2_with fail
      refine HCp.out.mono ?_
      rintro e w4 ⟨⟨a3, c3, a5, c5, rfl, O4⟩, hx4⟩
      clear t0 t1 t2 t3 t4 t5 v2 HCp
      have EU := ext_al w4 (.cells #[.int .i64 kd, .int .i64 kk', .slice a3 m1 c3, .int .i64 qq, .int .i64 bb, .slice a5 m2 c5] 43)
      have bx := opbx_new w4 kd kk' a3 m1 c3 qq bb a5 m2 c5
      have e1 := bx.x1; have f1 := bx.f 1
      have hx5 := hx4.trans EU
      have HO4 := Lib.hid (O4.ext EU); have Hbx := Lib.hid bx; have HE5 := Lib.hid hx5
      have hBx : wr.heap.size ≤ w4.heap.size := hx4.size
      clear O4 EU bx hx4 hx5
      go_upto_if 36 with fail
      generalize w4.alloc (.cells #[.int .i64 kd, .int .i64 kk', .slice a3 m1 c3, .int .i64 qq, .int .i64 bb, .slice a5 m2 c5] 43) = U at *
      obtain ⟨Bx, hBxe⟩ : ∃ y, w4.heap.size = y := ⟨_, rfl⟩
      rw [hBxe] at hBx Hbx e1 f1 ⊢
      clear hBxe
      go_cut [] from 24 to 46 (fun wx => OpBx wx Bx kd ok a3 m1 c3 qq bb a5 m2 c5 ∧ Only Bx U wx)
      case first =>
        by_cases h0 : 0 < kk'
        · have p1 : decide ((0 : Int) < kk') = true := dt h0
          have wk : IntKind.i64.wrap (16 - kk') = ok := by rw [IntKind.wrap_i64, HokE.out, if_neg (by omega)]; have := Hkr.out; omega
          go_wp2_with fail
          go_meet
          exact ⟨Hbx.out.set1 ok, only1 U Bx 1 _⟩
        · have p1 : decide ((0 : Int) < kk') = false := df h0
          have hok0 : kk' = ok := by rw [HokE.out]; have := Hkr.out; rw [if_pos (by omega)]; omega
          have Hok0 := Lib.hid hok0
          clear hok0
          go_wp2_with fail
          go_meet
          exact ⟨by rw [← Hok0.out]; exact Hbx.out, Only.refl _ _⟩
      case rest =>
      obtain ⟨bx, hOn⟩ := hcut
      obtain ⟨xs, hx0⟩ := Hown.out
      have hki := only_ints Hbx.out.row (by decide) hOn
      have hxc : OpsX wc (Ob + 1) (.slice av j cv) ((invO ops).take j) xs := (hx0.ext HE5.out).keep (fun g hg => hOn.block g (fun e => by have := (own_lt hx0.own g hg).2; omega)) hki
      have O5 := (HO4.out.keep hki)
      have hbs := Hbs.out
      have hO1 := HOb.out; have hO2 := Hlo.out
      have cC := (HC.out.ext HE5.out).kept hOn (by omega); have cR := (HR.out.ext HE5.out).kept hOn (by omega); have cF := (HF.out.ext HE5.out).kept hOn (by omega); have cf := (Hf.out.ext HE5.out).kept hOn (by omega); have cO := (HO.out.ext HE5.out).kept hOn (by omega)
      have hEc : Ext w wc := ext_only (HXr.out.trans HE5.out) hOn (by omega)
      have hsc : Bx < wc.heap.size := by rw [hOn.size]; exact Hbx.out.lt
      have Hxo := Lib.hid hx0.old
      have e0 := bx.x0; have e1 := bx.x1; have e2 := bx.x2; have e3 := bx.x3; have e4 := bx.x4; have e5 := bx.x5
      have y2 := cO.x2
      have Hxc := Lib.hid hxc; have HO5 := Lib.hid O5; have HcC := Lib.hid cC; have HcR := Lib.hid cR; have HcF := Lib.hid cF; have Hcf := Lib.hid cf; have HcO := Lib.hid cO; have HEc := Lib.hid hEc
      have Hsc := Lib.hid hsc; have HBx := Lib.hid hBx
      clear bx hOn hx0 hki hxc O5 hbs hO1 hO2 cC cR cF cf cO hEc hsc hBx HC HR HF Hf HO HE5 HO4 Hbx HXr Hown HokE
      have HOw := Lib.hid (show ∀ o, (wc.alloc o).ownsRow (Ob + 1) 43 6 (.slice av j cv) j xs from fun o => by have h := Hxc.out.own.alloc o; rw [Hli.out] at h; exact h)
      have wm : ∀ z : Int, z = (m : Int) - 1 → IntKind.i64.wrap ((m : Int) - 1) = z := fun z hz => by rw [IntKind.wrap_i64, hz]; omega
      obtain ⟨i', hi'⟩ : ∃ y : Int, y = (m : Int) - 1 := ⟨_, rfl⟩
      have wi := wm i' hi'
      have Hi' := Lib.hid hi'
      clear wm hi'
      go_wp2_with (at_builtin; refine wpList_append_own _ rfl _ _ 22 rfl (Ob + 1) 43 i0 (.agg #[.int .i64 0, .int .i64 0, .slice none 0 0, .int .i64 0, .int .i64 0, .slice none 0 0]) 6 80 Tryd.underlying22 hi hz0 hz1 hz2 rfl (by decide) _ j xs rfl (HOw.out _) ⟨wc.heap.size, 0, none⟩ 1 1 [.int .i64 kd, .int .i64 ok, .slice a3 m1 c3, .int .i64 qq, .int .i64 bb, .slice a5 m2 c5] rfl rfl (new_op wc _ _ _ _ _ _ _ _ _ _ _) (one_op _ _ _ _ _ _ _ _ _ _) (by unfold maxLen; omega) (by omega) (by have := Hbs.out; have := HBx.out; have := Hsc.out; simp; omega) ?_; intro v' w7 hown' hgrow' _; obtain ⟨g7, c7, rfl⟩ := slice_of_own hown' (by omega); have hkind := PtKind (Hxc.out.own.alloc (.cells #[.int .i64 kd, .int .i64 ok, .slice a3 m1 c3, .int .i64 qq, .int .i64 bb, .slice a5 m2 c5] 43)); have HO7 := Lib.hid (CiB_grown hgrow' hkind (HcO.out.ext (ext_al wc _)) (by omega)); have y7 := HO7.out.x2; have f7 := HO7.out.f 2)
      have Ea := ext_al wc (.cells #[.int .i64 kd, .int .i64 ok, .slice a3 m1 c3, .int .i64 qq, .int .i64 bb, .slice a5 m2 c5] 43)
      have hO1 := HOb.out; have hO2 := Hlo.out
      have hk7 := grown_ints hgrow' hkind
      have own7 := OpsX.snoc (g := ⟨kd, ok, ctl, qq, bb, cnd⟩) (Hxc.out.ext Ea) (by rw [Hli.out]; exact hown') hk7 Hxo.out Hbs.out ⟨((HO5.out.ext Ea).keep hk7).i1, ((HO5.out.ext Ea).keep hk7).i2, ((HO5.out.ext Ea).keep hk7).ne⟩
      have hOo := only1 w7 Ob 2 (.slice (some ⟨g7, 0, none⟩) (j + 1) c7)
      have Hown8 := Lib.hid (show OpsN _ (Ob + 1) _ _ from ⟨_, own7.only HO7.out.row (by decide) hOo (by omega)⟩)
      have HO8 := Lib.hid (HO7.out.set2 (some ⟨g7, 0, none⟩) (j + 1) c7)
      have HC8 := Lib.hid ((CiB_grown hgrow' hkind (HcC.out.ext Ea) (by omega)).kept hOo (by omega)); have HR8 := Lib.hid ((CiB_grown hgrow' hkind (HcR.out.ext Ea) (by omega)).kept hOo (by omega)); have HF8 := Lib.hid ((FtB_grown hgrow' hkind (HcF.out.ext Ea) (by omega)).kept hOo (by omega)); have Hf8 := Lib.hid ((FtB_grown hgrow' hkind (Hcf.out.ext Ea) (by omega)).kept hOo (by omega))
      have HE8 := Lib.hid (ext_only (grown_ext (HEc.out.trans Ea) hgrow' (fun k hk => by have := (hkind k hk).1; omega)) hOo (by omega))
      have Hs8 := Lib.hid (show Ob + 1 ≤ (w7.setCell ⟨Ob, 2, none⟩ (.slice (some ⟨g7, 0, none⟩) (j + 1) c7)).heap.size by rw [hOo.size]; have h1 := hgrow'.size; have h2 := Ea.size; have := Hbs.out; have := HBx.out; have := Hsc.out; omega)
      clear Ea hk7 own7 hOo hgrow' hown' hkind
      go_roundg (n - (j + 1))
      case measure => have := Hk.out; omega
      case rel => exact ⟨j + 1, i', some ⟨g7, 0, none⟩, c7, rfl, by have := Hi'.out; have := Hij.out; omega, by omega, rfl, HC8.out, HR8.out, HF8.out, Hf8.out, HO8.out, by rw [Hst.out]; exact Hown8.out, HE8.out, Hs8.out⟩

end Go.Proofs.YtapolidgocfbjaaDoor
namespace Go.Proofs.YtapolidgocfbjaaDoor
open Go.RowKit

theorem nt' {a b : Int} (h : a ≠ b) : (a != b) = true := by simp [h]
theorem bf' {a b : Int} (h : a ≠ b) : (a == b) = false := by simp [h]
theorem ne_f {a b : Int} (h : a = b) : (a != b) = false := by simp [h]
theorem eq_t {a b : Int} (h : a = b) : (a == b) = true := by simp [h]
/-- A circuit and a fault are laid into two variables: a row of operations stands. -/
theorem putCF_opsN {W : World} {R F base : Nat} {v : Value} {ops : List Gop} {x y p q : Int} {a0 : Option Addr} {n0 c0 : Nat} (h : OpsN W base v ops) (hR : CiB W R x y a0 n0 c0) (hF : FtB W F p q) (hne : R ≠ F) (qb bi : Int) (ao : Option Addr) (n cp : Nat) (u w : Int) : OpsN (putCF W R F qb bi ao n cp u w) base v ops := by
  have hP1 : Only R W (((W.setCell ⟨R, 0, none⟩ (.int .i64 qb)).setCell ⟨R, 1, none⟩ (.int .i64 bi)).setCell ⟨R, 2, none⟩ (.slice ao n cp)) := (((Only.refl _ _).setCell _ _).setCell _ _).setCell _ _
  exact (h.far hR.row (by decide) (by decide) hP1).far (hF.kept hP1 (fun e => hne e.symm)).row (by decide) (by decide) (only2 _ F _ _)

end Go.Proofs.YtapolidgocfbjaaDoor
namespace Go.Proofs.YtapolidgocfbjaaDoor
open Go.RowKit

set_option maxHeartbeats 4000000 in
set_option maxRecDepth 100000 in
theorem RInverse_no (c : Gci) (ao : Option Addr) (n cp : Nat) (w : World) (h : OpsAt w ao n c.ops) (hn : n ≤ cp) (hcp : cp ≤ 9223372036854775807) (hc : (pur c).1 ≠ 0) :
    Calls Tryd.prog 8 #[.agg #[.int .i64 c.qubits, .int .i64 c.bits, .slice ao n cp]] w fun e w' => e = .returned (.tuple #[.agg #[.int .i64 0, .int .i64 0, .slice none 0 0], .agg #[.int .i64 (pur c).1, .int .i64 (pur c).2]]) ∧ Ext w w' := by
  obtain ⟨qb, bi, ops⟩ := c
  obtain ⟨F, hF⟩ : ∃ F, pur ⟨qb, bi, ops⟩ = F := ⟨_, rfl⟩
  obtain ⟨u, v⟩ := F
  rw [hF] at hc ⊢
  simp only at hc ⊢
  obtain ⟨H, hH⟩ : ∃ H, w.heap.size = H := ⟨_, rfl⟩
  obtain ⟨A1, hA1⟩ : ∃ A1, w.alloc (.cells #[.int .i64 qb, .int .i64 bi, .slice ao n cp] 24) = A1 := ⟨_, rfl⟩
  obtain ⟨A2, hA2⟩ : ∃ A2, A1.alloc (.cells #[.int .i64 0, .int .i64 0, .slice none 0 0] 24) = A2 := ⟨_, rfl⟩
  obtain ⟨A3, hA3⟩ : ∃ A3, A2.alloc (.cells #[.int .i64 0, .int .i64 0] 28) = A3 := ⟨_, rfl⟩
  have s1 : A1.heap.size = H + 1 := by rw [← hA1, ← hH]; simp
  have s2 : A2.heap.size = H + 2 := by rw [← hA2]; simp; omega
  have x1 : Ext w A1 := by rw [← hA1]; exact ext_al _ _
  have x2 : Ext A1 A2 := by rw [← hA2]; exact ext_al _ _
  have x3 : Ext A2 A3 := by rw [← hA3]; exact ext_al _ _
  have bC : CiB A3 H qb bi ao n cp := by
    have : CiB A1 H qb bi ao n cp := by rw [← hA1, ← hH]; exact ⟨heap_alloc_new w _⟩
    exact (this.ext x2).ext x3
  have bR : CiB A3 (H + 1) 0 0 none 0 0 := by
    have : CiB A2 (H + 1) 0 0 none 0 0 := by rw [← hA2, ← s1]; exact ⟨heap_alloc_new A1 _⟩
    exact this.ext x3
  have bF : FtB A3 (H + 2) 0 0 := by rw [← hA3, ← s2]; exact ⟨heap_alloc_new A2 _⟩
  have E0 : Ext w A3 := (x1.trans x2).trans x3
  have hA : ((w.alloc (.cells #[.int .i64 qb, .int .i64 bi, .slice ao n cp] 24)).alloc (.cells #[.int .i64 0, .int .i64 0, .slice none 0 0] 24)).alloc (.cells #[.int .i64 0, .int .i64 0] 28) = A3 := by rw [hA1, hA2, hA3]
  have HK := Lib.hid (RPure_any ⟨qb, bi, ops⟩ ao n cp A3 (h.ext E0) hn hcp)
  rw [hF] at HK
  subst hH
  simp only at HK ⊢
  have m0 := bC.x0; have m1 := bC.x1; have m2 := bC.x2
  rw [← hA] at m0 m1 m2
  have HA := Lib.hid hA; have HE0 := Lib.hid E0; have HR := Lib.hid bR; have HFt := Lib.hid bF
  have nu := nt hc; have nb := bf hc
  clear h hF E0 bC bR bF x1 x2 x3 s1 s2 hA1 hA2 hA3 hA
  go_enter Tryd.func8, Tryd.ntmps8
  go_wp2_with fail
  rw [HA.out]
  refine HK.out.mono ?_
  rintro e w1 ⟨rfl, hx1⟩
  have Ef := ext_al w1 (.cells #[.int .i64 u, .int .i64 v] 28)
  have bf1 : FtB (w1.alloc (.cells #[.int .i64 u, .int .i64 v] 28)) w1.heap.size u v := ⟨heap_alloc_new w1 _⟩
  have q0 := bf1.x0; have q1 := bf1.x1
  have hX := hx1.trans Ef
  have bR1 := HR.out.ext hX; have bF1 := HFt.out.ext hX
  have HEz := Lib.hid (HE0.out.trans hX)
  have hsz1 := hX.size; have hA3 := HFt.out.lt
  have r0 := bR1.x0; have r1 := bR1.x1; have r2 := bR1.x2; have g0 := bR1.f 0; have g1 := bR1.f 1; have g2 := bR1.f 2
  have f0 := bF1.x0; have f1 := bF1.x1; have k0 := bF1.f 0; have k1 := bF1.f 1
  have HbR1 := Lib.hid bR1; have HbF1 := Lib.hid bF1
  have hgt : w.heap.size + 1 + 1 < w1.heap.size := Nat.lt_of_lt_of_le hA3 hx1.size
  have hgt1 : w1.heap.size ≠ w.heap.size + 1 := by omega
  have hgt2 : w1.heap.size ≠ w.heap.size + 1 + 1 := by omega
  have zC := (putCF_C HbR1.out (show w.heap.size + 1 ≠ w.heap.size + 1 + 1 by omega) 0 0 none 0 0 u v).drew
  have zF := (putCF_F HbF1.out (show w.heap.size + 1 ≠ w.heap.size + 1 + 1 by omega) 0 0 none 0 0 u v).drew
  have zE : Ext w (putCF (w1.alloc (.cells #[.int .i64 u, .int .i64 v] 28)) (w.heap.size + 1) (w.heap.size + 1 + 1) 0 0 none 0 0 u v).drew := Below.drew (putCF_ext HEz.out (by omega) (by omega) _ _ _ _ _ _ _)
  obtain ⟨Wz, hWz⟩ : ∃ Wz, putCF (w1.alloc (.cells #[.int .i64 u, .int .i64 v] 28)) (w.heap.size + 1) (w.heap.size + 1 + 1) 0 0 none 0 0 u v = Wz := ⟨_, rfl⟩
  rw [hWz] at zC zF zE
  unfold putCF at hWz
  have HWz := Lib.hid hWz; have HzE := Lib.hid zE
  have z0 := zC.x0; have z1 := zC.x1; have z2 := zC.x2; have z3 := zF.x0; have z4 := zF.x1
  clear m0 m1 m2 hx1 Ef bf1 HK hX bR1 bF1 hWz zE zC zF
  clear hsz1 hA3 hgt
  go_upto_region 3 with fail
  go_region
  go_wp2_with fail
  rw [HWz.out]
  exact bodyPost_ret (v := .tuple #[.agg #[.int .i64 0, .int .i64 0, .slice none 0 0], .agg #[.int .i64 u, .int .i64 v]]) (by simp [results, Tryd.results8, go_sem, z0, z1, z2, z3, z4]) rfl ⟨rfl, HzE.out⟩

end Go.Proofs.YtapolidgocfbjaaDoor
namespace Go.Proofs.YtapolidgocfbjaaDoor
open Go.RowKit

set_option maxHeartbeats 8000000 in
set_option maxRecDepth 100000 in
theorem with_N (qb bi : Int) (ao0 : Option Addr) (n0 cp0 : Nat) (ao : Option Addr) (n cp : Nat) (ops : List Gop) (w : World) (h : OpsAt w ao n ops) (hn : n ≤ 10000) (hb : ∀ g ∈ ops, g.ctl.length ≤ 1000 ∧ g.cnd.length ≤ 1000) :
    Calls Tryd.prog 24 #[.agg #[.int .i64 qb, .int .i64 bi, .slice ao0 n0 cp0], .slice ao n cp] w fun e w' => (∃ (a' : Option Addr) (c' : Nat), e = .returned (.agg #[.int .i64 qb, .int .i64 bi, .slice a' n c']) ∧ OpsN w' (w.heap.size + 3) (.slice a' n c') ops) ∧ Ext w w' := by
  obtain ⟨i0, hi, hz0, hz1, hz2⟩ := info_parts op_info
  have Hl := Lib.hid h.1
  obtain ⟨H, hH⟩ : ∃ H, w.heap.size = H := ⟨_, rfl⟩
  obtain ⟨A1, hA1⟩ : ∃ A1, w.alloc (.cells #[.int .i64 qb, .int .i64 bi, .slice ao0 n0 cp0] 24) = A1 := ⟨_, rfl⟩
  obtain ⟨A2, hA2⟩ : ∃ A2, A1.alloc (.cells #[.int .i64 0, .int .i64 0, .slice none 0 0] 24) = A2 := ⟨_, rfl⟩
  obtain ⟨A3, hA3⟩ : ∃ A3, A2.alloc (.cells #[.int .i64 qb, .int .i64 bi, .slice none 0 0] 24) = A3 := ⟨_, rfl⟩
  have hA2' : (w.alloc (.cells #[.int .i64 qb, .int .i64 bi, .slice ao0 n0 cp0] 24)).alloc (.cells #[.int .i64 0, .int .i64 0, .slice none 0 0] 24) = A2 := by rw [hA1, hA2]
  have s1 : A1.heap.size = H + 1 := by rw [← hA1, ← hH]; simp
  have s2 : A2.heap.size = H + 2 := by rw [← hA2]; simp; omega
  have s3 : A3.heap.size = H + 3 := by rw [← hA3]; simp; omega
  have x1 : Ext w A1 := by rw [← hA1]; exact ext_al _ _
  have x2 : Ext A1 A2 := by rw [← hA2]; exact ext_al _ _
  have x3 : Ext A2 A3 := by rw [← hA3]; exact ext_al _ _
  have bC : CiB A2 H qb bi ao0 n0 cp0 := by
    have : CiB A1 H qb bi ao0 n0 cp0 := by rw [← hA1, ← hH]; exact ⟨heap_alloc_new w _⟩
    exact this.ext x2
  have bR : CiB A3 (H + 1) 0 0 none 0 0 := by
    have : CiB A2 (H + 1) 0 0 none 0 0 := by rw [← hA2, ← s1]; exact ⟨heap_alloc_new A1 _⟩
    exact this.ext x3
  have bO : CiB A3 (H + 2) qb bi none 0 0 := by rw [← hA3, ← s2]; exact ⟨heap_alloc_new A2 _⟩
  have HhH := Lib.hid hH
  have m0 := bC.x0; have m1 := bC.x1
  have HA := Lib.hid hA2'; have HA3 := Lib.hid hA3; have HE3 := Lib.hid ((x1.trans x2).trans x3); have HbR := Lib.hid bR; have HbO := Lib.hid bO; have Hops := Lib.hid h; have Hb := Lib.hid hb
  have Hs3 := Lib.hid s3; have Hs2 := Lib.hid s2
  rw [← hH] at m0 m1
  rw [← hA2'] at m0 m1
  clear h hb hA1 hA2 hA3 hA2' s1 s2 s3 x1 x2 x3 bC bR bO
  go_enter Tryd.func24, Tryd.ntmps24
  go_wp2_with fail
  rw [HA.out, HA3.out]
  go_loopg [7, 15] n (fun kk s7 s15 wx => ∃ (i : Nat) (av : Option Addr) (cv : Nat), s15 = .int .i64 (i : Int) ∧ i ≤ n ∧ n - i = kk ∧ CiB wx (H + 1) 0 0 none 0 0 ∧ CiB wx (H + 2) qb bi av i cv ∧ OpsN wx (H + 3) (.slice av i cv) (ops.take i) ∧ Ext w wx ∧ H + 3 ≤ wx.heap.size)
  case atStart => exact ⟨0, none, 0, rfl, by omega, by omega, HbR.out, HbO.out, OpsN.nil _ _, HE3.out, by rw [Hs3.out]; exact Nat.le_refl _⟩
  case round =>
    clear HbR HbO HE3 m0 m1
    obtain ⟨i, av, cv, rfl, hin', hk, bR, bO, hown, hX, hbs⟩ := hrel
    by_cases hin : i = n
    · have q1 : ¬ (i : Int) < (n : Int) := by omega
      have q1' : decide ((i : Int) < (n : Int)) = false := df q1
      have htk : ops.take i = ops := List.take_of_length_le (by rw [Hl.out]; omega)
      rw [htk] at hown
      have y0 := bO.x0; have y1 := bO.x1; have y2 := bO.x2
      have r0 := bR.x0; have r1 := bR.x1; have r2 := bR.x2; have g0 := bR.f 0; have g1 := bR.f 1; have g2 := bR.f 2
      have hO3 : Only (H + 1) wr (((wr.setCell ⟨H + 1, 0, none⟩ (.int .i64 qb)).setCell ⟨H + 1, 1, none⟩ (.int .i64 bi)).setCell ⟨H + 1, 2, none⟩ (.slice av i cv)) := (((Only.refl _ _).setCell _ _).setCell _ _).setCell _ _
      have hoF := hown.only bR.row (by decide) hO3 (by omega)
      have zC : CiB (((wr.setCell ⟨H + 1, 0, none⟩ (.int .i64 qb)).setCell ⟨H + 1, 1, none⟩ (.int .i64 bi)).setCell ⟨H + 1, 2, none⟩ (.slice av i cv)) (H + 1) qb bi av i cv := ((bR.set0 qb).set1 bi).set2 av i cv
      have HE := Lib.hid (cput (o := 2) (cput (o := 1) (cput (o := 0) hX (show w.heap.size ≤ H + 1 by omega) (.int .i64 qb)) (show w.heap.size ≤ H + 1 by omega) (.int .i64 bi)) (show w.heap.size ≤ H + 1 by omega) (.slice av i cv))
      have HoF := Lib.hid hoF; have Hin := Lib.hid hin; have HzC := Lib.hid zC
      clear hown hO3 hoF bR bO hX hin htk zC hk hin'
      go_wp2_with fail
      generalize ((wr.setCell ⟨H + 1, 0, none⟩ (.int .i64 qb)).setCell ⟨H + 1, 1, none⟩ (.int .i64 bi)).setCell ⟨H + 1, 2, none⟩ (.slice av i cv) = Wz at *
      have z0 := HzC.out.x0; have z1 := HzC.out.x1; have z2 := HzC.out.x2
      exact bodyPost_ret (v := .agg #[.int .i64 qb, .int .i64 bi, .slice av i cv]) (by simp [results, Tryd.results24, go_sem, z0, z1, z2]) rfl ⟨⟨av, cv, by rw [Hin.out], Eq.mp (congrArg (fun v => OpsN _ (H + 3) v ops) (show Value.slice av i cv = Value.slice av n cv by rw [Hin.out])) HoF.out⟩, HE.out⟩
    · have q1 : (i : Int) < (n : Int) := by omega
      have q1' : decide ((i : Int) < (n : Int)) = true := dt q1
      have q0 : (0 : Int) ≤ (i : Int) := by omega
      obtain ⟨gg, hg⟩ : ∃ g, ops[i]? = some g := ⟨_, List.getElem?_eq_getElem (by rw [Hl.out]; omega)⟩
      have hst : ops.take (i + 1) = ops.take i ++ [gg] := by rw [List.take_add_one, hg]; rfl
      obtain ⟨bo, oo, rfl⟩ := (Hops.out.ext hX).some_of (by omega)
      obtain ⟨a1, n1, c1, a2, n2, c2, t0, t1, t2, t3, t4, t5, hLo⟩ := (Hops.out.ext hX).at i gg hg
      obtain ⟨hbl1, hbl2⟩ := Hb.out gg (List.mem_of_getElem? hg)
      obtain ⟨kd, kk', ctl, qq, bb, cnd⟩ := gg
      simp only at t0 t1 t3 t4 hbl1 hbl2
      have hn1 : n1 ≤ 1000 := by rw [← hLo.i1.1]; exact hbl1
      have hn2 : n2 ≤ 1000 := by rw [← hLo.i2.1]; exact hbl2
      have hown' := hown
      obtain ⟨xs0, ho0x⟩ := hown
      have ho0 := ho0x.own
      have hnb : ∀ k, (Value.slice av i cv).ownBlock = some k → k < wr.heap.size := fun k hk' => (own_lt ho0 k hk').2
      obtain ⟨U, hU⟩ : ∃ U, wr.alloc (.cells #[.int .i64 kd, .int .i64 kk', .slice a1 n1 c1, .int .i64 qq, .int .i64 bb, .slice a2 n2 c2] 43) = U := ⟨_, rfl⟩
      obtain ⟨Bx, hBx⟩ : ∃ x, wr.heap.size = x := ⟨_, rfl⟩
      have hEU : Ext wr U := by rw [← hU]; exact ext_al _ _
      have bx : OpBx U Bx kd kk' a1 n1 c1 qq bb a2 n2 c2 := by rw [← hU, ← hBx]; exact opbx_new wr kd kk' a1 n1 c1 qq bb a2 n2 c2
      rw [hBx] at hnb
      have HOu := Lib.hid (hown'.ext hEU); have HbR := Lib.hid (bR.ext hEU); have HbO := Lib.hid (bO.ext hEU); have HEU := Lib.hid (hX.trans hEU); have Hbx := Lib.hid bx; have Hnb := Lib.hid hnb
      have HCp := Lib.hid (fun wx (hx : Ext U wx) => ccopyOp_N ⟨kd, kk', ctl, qq, bb, cnd⟩ a1 n1 c1 a2 n2 c2 wx ((hLo.ext hEU).ext hx) (by omega) (by omega))
      simp only at HCp
      have Hst := Lib.hid hst; have HU := Lib.hid hU
      have hbs' : H + 3 ≤ U.heap.size := Nat.le_trans hbs hEU.size
      clear hown' ho0 ho0x bR bO hX hEU bx hnb hLo hst hU hg hbl1 hbl2 hbs
      have hbs := hbs'
      clear hbs'
      go_upto_region 5 with fail
      rw [HU.out]
      clear t0 t1 t2 t3 t4 t5
      have v2 := HbO.out.x2
      have e0 := Hbx.out.x0; have e1 := Hbx.out.x1; have e2 := Hbx.out.x2; have e3 := Hbx.out.x3; have e4 := Hbx.out.x4; have e5 := Hbx.out.x5
      have hE0d : Ext U U.drew := Below.drew (Ext.refl _)
      refine wp_region_K 7 (fun w' => w'.cell? ⟨H + 2, 2, none⟩ = some (.slice av i cv) ∧ w'.cell? ⟨Bx, 0, none⟩ = some (.int .i64 kd) ∧ w'.cell? ⟨Bx, 1, none⟩ = some (.int .i64 kk') ∧ w'.cell? ⟨Bx, 2, none⟩ = some (.slice a1 n1 c1) ∧ w'.cell? ⟨Bx, 3, none⟩ = some (.int .i64 qq) ∧ w'.cell? ⟨Bx, 4, none⟩ = some (.int .i64 bb) ∧ w'.cell? ⟨Bx, 5, none⟩ = some (.slice a2 n2 c2)) (by kernel_rfl) ?_
      show anyK _ _ _ _ _ _ 8 #[false, false, false, false, false, false, false, false] _ _
      have hHeld : U.drew.cell? ⟨H + 2, 2, none⟩ = some (.slice av i cv) ∧ U.drew.cell? ⟨Bx, 0, none⟩ = some (.int .i64 kd) ∧ U.drew.cell? ⟨Bx, 1, none⟩ = some (.int .i64 kk') ∧ U.drew.cell? ⟨Bx, 2, none⟩ = some (.slice a1 n1 c1) ∧ U.drew.cell? ⟨Bx, 3, none⟩ = some (.int .i64 qq) ∧ U.drew.cell? ⟨Bx, 4, none⟩ = some (.int .i64 bb) ∧ U.drew.cell? ⟨Bx, 5, none⟩ = some (.slice a2 n2 c2) := ⟨v2, e0, e1, e2, e3, e4, e5⟩
      refine anyK_take (i := 0) (v := ?_) rfl (by kernel_rfl) (by kernel_rfl) (by kernel_rfl) (N := 8) (by kernel_rfl) (by kernel_rfl) (by kernel_rfl) (fun _ _ _ h => h) (Or.inl ⟨by rfl, ?_⟩) hHeld ?_
      rotate_left 1
      · intro w hSw
        go_simp
        try with_reducible rfl
      show anyK _ _ _ _ _ _ _ _ (Act.put _ (some 19) _) _
      simp only [Act.put, List.setIfInBounds_toArray, List.set_cons_zero, List.set_cons_succ]
      refine anyK_take (i := 1) (v := ?_) rfl (by kernel_rfl) (by kernel_rfl) (by kernel_rfl) (N := 8) (by kernel_rfl) (by kernel_rfl) (by kernel_rfl) (fun _ _ _ h => h) (Or.inl ⟨by rfl, ?_⟩) hHeld ?_
      rotate_left 1
      · intro w hSw
        go_simp
        try with_reducible rfl
      show anyK _ _ _ _ _ _ _ _ (Act.put _ (some 20) _) _
      simp only [Act.put, List.setIfInBounds_toArray, List.set_cons_zero, List.set_cons_succ]
      refine anyK_take (i := 2) (v := ?_) rfl (by kernel_rfl) (by kernel_rfl) (by kernel_rfl) (N := 8) (by kernel_rfl) (by kernel_rfl) (by kernel_rfl) (fun _ _ _ h => h) (Or.inl ⟨by rfl, ?_⟩) hHeld ?_
      rotate_left 1
      · intro w hSw
        go_simp
        try with_reducible rfl
      show anyK _ _ _ _ _ _ _ _ (Act.put _ (some 21) _) _
      simp only [Act.put, List.setIfInBounds_toArray, List.set_cons_zero, List.set_cons_succ]
      clear hHeld
      refine anyK_one (i := 3) (by kernel_rfl) rfl (fun Kk hKk => ?_)
      go_simp
      (go_at_call 43; refine (HCp.out _ hE0d).mono ?_; rintro e w4 ⟨⟨a3, c3, a5, c5, rfl, O4⟩, hx4⟩; have he4 : Ext U w4 := hE0d.trans hx4)
      go_wp2_with fail
      refine hKk.out _ _ (fun _ => ⟨cell_ext v2 he4, cell_ext e0 he4, cell_ext e1 he4, cell_ext e2 he4, cell_ext e3 he4, cell_ext e4 he4, cell_ext e5 he4⟩) ?_
      clear hKk Kk
      simp only [List.setIfInBounds_toArray, List.set_cons_zero, List.set_cons_succ]
      have he5 : Ext U (w4.alloc (.cells #[.int .i64 kd, .int .i64 kk', .slice a3 n1 c3, .int .i64 qq, .int .i64 bb, .slice a5 n2 c5] 43)) := he4.trans (ext_al _ _)
      refine anyK_one (i := 4) (by kernel_rfl) rfl (fun Kk hKk => ?_)
      go_wp2_with fail
      refine hKk.out _ _ (fun _ => ⟨cell_ext v2 he5, cell_ext e0 he5, cell_ext e1 he5, cell_ext e2 he5, cell_ext e3 he5, cell_ext e4 he5, cell_ext e5 he5⟩) ?_
      clear hKk Kk
      simp only [List.setIfInBounds_toArray, List.set_cons_zero, List.set_cons_succ]
      obtain ⟨xs, hx0⟩ := HOu.out
      have hxx := hx0.ext he4
      have ho := hxx.own
      have ho5 := ho.alloc (.cells #[.int .i64 kd, .int .i64 kk', .slice a3 n1 c3, .int .i64 qq, .int .i64 bb, .slice a5 n2 c5] 43)
      have hli : (ops.take i).length = i := by rw [List.length_take, Hl.out]; omega
      obtain ⟨g, cap, w7, hrun, hown', hgrow', hcase, hglt⟩ := run_append_lies (P := Tryd.prog) (w4.alloc (.cells #[.int .i64 kd, .int .i64 kk', .slice a3 n1 c3, .int .i64 qq, .int .i64 bb, .slice a5 n2 c5] 43)) 22 22 (H + 3) 43 i0 (.agg #[.int .i64 0, .int .i64 0, .slice none 0 0, .int .i64 0, .int .i64 0, .slice none 0 0]) 6 80 Tryd.underlying22 hi hz0 hz1 hz2 rfl (by decide) (.slice av i cv) (ops.take i).length xs ho5 ⟨w4.heap.size, 0, none⟩ 1 1 [.int .i64 kd, .int .i64 kk', .slice a3 n1 c3, .int .i64 qq, .int .i64 bb, .slice a5 n2 c5] rfl (new_op w4 _ _ _ _ _ _ _ _ _ _ _) (one_op _ _ _ _ _ _ _ _ _ _) (by omega) (by rw [hli]; unfold maxLen; omega) (by rw [hli]; omega) (Nat.le_trans hbs he5.size) _ rfl
      rw [hli] at hrun
      refine anyK_one (i := 5) (by kernel_rfl) rfl (fun Kk hKk => ?_)
      refine stepK_append rfl _ _ 22 rfl (.slice av i cv) (.slice (some ⟨w4.heap.size, 0, none⟩) 1 1) _ rfl rfl hrun ?_
      have hkind := PtKind ho5
      have hk7 : ∀ (b' : Nat) (cur : Array Value) (fr : Nat × Nat), (w4.alloc (.cells #[.int .i64 kd, .int .i64 kk', .slice a3 n1 c3, .int .i64 qq, .int .i64 bb, .slice a5 n2 c5] 43)).heap[b']? = some (.cells cur 3 fr) → w7.heap[b']? = (w4.alloc (.cells #[.int .i64 kd, .int .i64 kk', .slice a3 n1 c3, .int .i64 qq, .int .i64 bb, .slice a5 n2 c5] 43)).heap[b']? := fun b' cur fr hb' => by
        refine hgrow'.block b' (Array.getElem?_eq_some_iff.1 hb').1 (fun e => ?_)
        obtain ⟨_, cs, fr', e2⟩ := hkind b' e.symm
        rw [e2] at hb'
        cases hb'
      have O7 := (O4.ext (ext_al _ (.cells #[.int .i64 kd, .int .i64 kk', .slice a3 n1 c3, .int .i64 qq, .int .i64 bb, .slice a5 n2 c5] 43))).keep hk7
      have own7 := OpsX.snoc (g := ⟨kd, kk', ctl, qq, bb, cnd⟩) (hxx.ext (ext_al _ _)) hown' hk7 hx0.old (show H + 3 ≤ U.heap.size from hbs) O7
      have bOut7 : CiB w7 (H + 2) qb bi av i cv := CiB_grown hgrow' hkind (HbO.out.ext he5) (by omega)
      have bRes7 : CiB w7 (H + 1) 0 0 none 0 0 := CiB_grown hgrow' hkind (HbR.out.ext he5) (by omega)
      have bBox7 : OpBx w7 Bx kd kk' a1 n1 c1 qq bb a2 n2 c2 := ⟨(hgrow'.block _ (Hbx.out.ext he5).lt (fun e => by have := Hnb.out _ e.symm; omega)).trans (Hbx.out.ext he5).row⟩
      have x2' := bOut7.x2; have fz2 := bOut7.f 2
      have hHeld : w7.cell? ⟨H + 2, 2, none⟩ = some (.slice av i cv) ∧ w7.cell? ⟨Bx, 0, none⟩ = some (.int .i64 kd) ∧ w7.cell? ⟨Bx, 1, none⟩ = some (.int .i64 kk') ∧ w7.cell? ⟨Bx, 2, none⟩ = some (.slice a1 n1 c1) ∧ w7.cell? ⟨Bx, 3, none⟩ = some (.int .i64 qq) ∧ w7.cell? ⟨Bx, 4, none⟩ = some (.int .i64 bb) ∧ w7.cell? ⟨Bx, 5, none⟩ = some (.slice a2 n2 c2) := ⟨x2', bBox7.x0, bBox7.x1, bBox7.x2, bBox7.x3, bBox7.x4, bBox7.x5⟩
      refine hKk.out _ _ (fun _ => hHeld) ?_
      clear hKk Kk
      show anyK _ _ _ _ _ _ _ _ (Act.put _ (some 24) _) _
      simp only [Act.put, List.setIfInBounds_toArray, List.set_cons_zero, List.set_cons_succ]
      refine anyK_take (i := 6) (v := ?_) rfl (by kernel_rfl) (by kernel_rfl) (by kernel_rfl) (N := 8) (by kernel_rfl) (by kernel_rfl) (by kernel_rfl) (fun _ _ _ h => h) (Or.inl ⟨by rfl, ?_⟩) hHeld ?_
      rotate_left 1
      · intro w hSw
        go_simp
        try with_reducible rfl
      show anyK _ _ _ _ _ _ _ _ (Act.put _ (some 25) _) _
      simp only [Act.put, List.setIfInBounds_toArray, List.set_cons_zero, List.set_cons_succ]
      clear hHeld
      refine anyK_one (i := 7) (by kernel_rfl) rfl (fun Kk hKk => ?_)
      refine stepK_store rfl rfl _ _ rfl (H + 2) 2 (some ⟨g, 0, none⟩) (i + 1) cap (.slice av i cv) rfl rfl x2' fz2 ?_
      refine hKk.out _ _ (fun h => Bool.noConfusion (show true = false from h)) ?_
      clear hKk Kk
      simp only [List.setIfInBounds_toArray, List.set_cons_zero, List.set_cons_succ]
      refine anyK_done (by kernel_rfl) ?_ _
      have hOo := only1 w7 (H + 2) 2 (.slice (some ⟨g, 0, none⟩) (i + 1) cap)
      have Hown8 := Lib.hid (show OpsN _ (H + 3) _ _ from ⟨_, own7.only bOut7.row (by decide) hOo (by omega)⟩)
      rw [hli] at Hown8
      clear hli
      have HbO8 := Lib.hid (bOut7.set2 (some ⟨g, 0, none⟩) (i + 1) cap)
      have HbR8 := Lib.hid (show CiB (w7.setCell ⟨H + 2, 2, none⟩ (.slice (some ⟨g, 0, none⟩) (i + 1) cap)) (H + 1) 0 0 none 0 0 from ⟨(hOo.block _ (by omega)).trans bRes7.row⟩)
      have HE8 := Lib.hid (cput (o := 2) (grown_ext (HEU.out.trans he5) hgrow' (fun k hk => by have := (hkind k hk).1; have := HhH.out; omega)) (show w.heap.size ≤ H + 2 by have := HhH.out; omega) (.slice (some ⟨g, 0, none⟩) (i + 1) cap))
      have Hs8 := Lib.hid (show H + 3 ≤ (w7.setCell ⟨H + 2, 2, none⟩ (.slice (some ⟨g, 0, none⟩) (i + 1) cap)).heap.size by simp; exact Nat.le_trans (Nat.le_trans hbs he5.size) hgrow'.size)
      clear own7 bOut7 bRes7 bBox7 O7 hk7 hkind hgrow' hown' hrun ho5 ho hxx hx0 O4 hx4 he4 he5 hE0d v2 e0 e1 e2 e3 e4 e5 x2' fz2 hOo
      generalize w7.setCell ⟨H + 2, 2, none⟩ (.slice (some ⟨g, 0, none⟩) (i + 1) cap) = w8 at *
      go_wp2_with fail
      go_roundg (n - (i + 1))
      case measure => omega
      case rel => exact ⟨i + 1, some ⟨g, 0, none⟩, cap, by go_num, by omega, rfl, HbR8.out, HbO8.out, by rw [Hst.out]; exact Hown8.out, HE8.out, Hs8.out⟩

end Go.Proofs.YtapolidgocfbjaaDoor
namespace Go.Proofs.YtapolidgocfbjaaDoor
open Go.RowKit

/-- Two operations change places. -/
theorem rowF_swap {w w' : World} {base : Nat} {cs : Array Value} {ops : List Gop} {n i j : Nat} {gi gj : Gop} {a1 : Option Addr} {n1 c1 : Nat} {a2 : Option Addr} {n2 c2 : Nat} {b1 : Option Addr} {m1 d1 : Nat} {b2 : Option Addr} {m2 d2 : Nat}
    (hl : ops.length = n) (hij : i + j + 1 = n) (hlt : i < j) (hsz : n * 6 ≤ cs.size) (h : RowF w base (fun p => cs[p]?) (half ops i)) (hgi : ops[i]? = some gi) (hgj : ops[j]? = some gj)
    (hi : OpN w base gi a1 n1 c1 a2 n2 c2) (hj : OpN w base gj b1 m1 d1 b2 m2 d2) (hk : ∀ g a1 n1 c1 a2 n2 c2, OpN w base g a1 n1 c1 a2 n2 c2 → OpN w' base g a1 n1 c1 a2 n2 c2) :
    RowF w' base (fun p => (set6 (set6 cs (i * 6) (opF gj b1 m1 d1 b2 m2 d2)) (j * 6) (opF gi a1 n1 c1 a2 n2 c2))[p]?) (half ops (i + 1)) := by
  intro t g hg
  have ht : t < n := by have := (List.getElem?_eq_some_iff.1 hg).1; rw [half_len (by omega), hl] at this; exact this
  rw [half_get (by omega) (by omega), hl] at hg
  by_cases e1 : t = j
  · subst e1
    rw [if_pos (by omega), show n - 1 - t = i by omega, hgi] at hg
    injection hg with hg
    subst hg
    have hin := fun k hk => set6_in (set6 cs (i * 6) (opF gj b1 m1 d1 b2 m2 d2)) (t * 6) (opF gi a1 n1 c1 a2 n2 c2) k hk (by rw [set6_size]; omega)
    exact ⟨a1, n1, c1, a2, n2, c2, hin 0 (by omega), hin 1 (by omega), hin 2 (by omega), hin 3 (by omega), hin 4 (by omega), hin 5 (by omega), hk _ _ _ _ _ _ _ hi⟩
  · have hout : ∀ k, k < 6 → (set6 (set6 cs (i * 6) (opF gj b1 m1 d1 b2 m2 d2)) (j * 6) (opF gi a1 n1 c1 a2 n2 c2))[t * 6 + k]? = (set6 cs (i * 6) (opF gj b1 m1 d1 b2 m2 d2))[t * 6 + k]? := fun k hk => set6_out _ _ _ _ (by omega)
    by_cases e2 : t = i
    · subst e2
      rw [if_pos (by omega), show n - 1 - t = j by omega, hgj] at hg
      injection hg with hg
      subst hg
      have hin := fun k hk => (hout k hk).trans (set6_in cs (t * 6) (opF gj b1 m1 d1 b2 m2 d2) k hk (by omega))
      exact ⟨b1, m1, d1, b2, m2, d2, hin 0 (by omega), hin 1 (by omega), hin 2 (by omega), hin 3 (by omega), hin 4 (by omega), hin 5 (by omega), hk _ _ _ _ _ _ _ hj⟩
    · have hg' : (half ops i)[t]? = some g := by
        rw [half_get (by omega) (by omega), hl]
        by_cases e3 : t < i ∨ n - i ≤ t
        · rw [if_pos e3]; rw [if_pos (by omega)] at hg; exact hg
        · rw [if_neg e3]; rw [if_neg (by omega)] at hg; exact hg
      obtain ⟨x1, x2, x3, x4, x5, x6, y0, y1, y2, y3, y4, y5, y6⟩ := h t g hg'
      have hin := fun k hk => (hout k hk).trans (set6_out cs (i * 6) (opF gj b1 m1 d1 b2 m2 d2) (t * 6 + k) (by omega))
      exact ⟨x1, x2, x3, x4, x5, x6, (hin 0 (by omega)).trans y0, (hin 1 (by omega)).trans y1, (hin 2 (by omega)).trans y2, (hin 3 (by omega)).trans y3, (hin 4 (by omega)).trans y4, (hin 5 (by omega)).trans y5, hk _ _ _ _ _ _ _ y6⟩

/-- Two places change what they hold: no two cells lead into one block. -/
theorem sepF_swap {cs : Array Value} {n i j : Nat} {fi fj : Nat → Value} (hlt : i < j) (hj : j < n) (hsz : n * 6 ≤ cs.size) (hi6 : ∀ k, k < 6 → cs[i * 6 + k]? = some (fi k)) (hj6 : ∀ k, k < 6 → cs[j * 6 + k]? = some (fj k)) (h : SepF (n * 6) (fun p => cs[p]?)) :
    SepF (n * 6) (fun p => (set6 (set6 cs (i * 6) fj) (j * 6) fi)[p]?) := by
  have key : ∀ p, p < n * 6 → ∃ q, q < n * 6 ∧ (set6 (set6 cs (i * 6) fj) (j * 6) fi)[p]? = cs[q]? ∧ (p / 6 = i → q = j * 6 + p % 6) ∧ (p / 6 = j → q = i * 6 + p % 6) ∧ (p / 6 ≠ i → p / 6 ≠ j → q = p) := by
    intro p hp
    have hpe : p = p / 6 * 6 + p % 6 := by omega
    have hp6 : p % 6 < 6 := by omega
    by_cases e1 : p / 6 = j
    · refine ⟨i * 6 + p % 6, by omega, ?_, fun e => by omega, fun _ => rfl, fun _ e => absurd e1 e⟩
      have h1 := set6_in (set6 cs (i * 6) fj) (j * 6) fi (p % 6) hp6 (by rw [set6_size]; omega)
      rw [show j * 6 + p % 6 = p by omega] at h1
      rw [h1, hi6 _ hp6]
    · by_cases e2 : p / 6 = i
      · refine ⟨j * 6 + p % 6, by omega, ?_, fun _ => rfl, fun e => absurd e e1, fun e => absurd e2 e⟩
        have h1 := set6_in cs (i * 6) fj (p % 6) hp6 (by omega)
        rw [show i * 6 + p % 6 = p by omega] at h1
        rw [set6_out _ _ _ _ (by omega), h1, hj6 _ hp6]
      · refine ⟨p, hp, ?_, fun e => absurd e e2, fun e => absurd e e1, fun _ _ => rfl⟩
        rw [set6_out _ _ _ _ (by omega), set6_out _ _ _ _ (by omega)]
  intro p q k u v hp hq eu ev ku kv
  obtain ⟨p', hp1, hp2, hp3, hp4, hp5⟩ := key p hp
  obtain ⟨q', hq1, hq2, hq3, hq4, hq5⟩ := key q hq
  simp only at eu ev
  rw [hp2] at eu
  rw [hq2] at ev
  have he := h p' q' k u v hp1 hq1 eu ev ku kv
  by_cases e1 : p / 6 = i
  · have := hp3 e1
    by_cases e2 : q / 6 = i
    · have := hq3 e2; omega
    · by_cases e3 : q / 6 = j
      · have := hq4 e3; omega
      · have := hq5 e2 e3; omega
  · by_cases e1' : p / 6 = j
    · have := hp4 e1'
      by_cases e2 : q / 6 = i
      · have := hq3 e2; omega
      · by_cases e3 : q / 6 = j
        · have := hq4 e3; omega
        · have := hq5 e2 e3; omega
    · have := hp5 e1 e1'
      by_cases e2 : q / 6 = i
      · have := hq3 e2; omega
      · by_cases e3 : q / 6 = j
        · have := hq4 e3; omega
        · have := hq5 e2 e3; omega

set_option maxHeartbeats 8000000 in
set_option maxRecDepth 100000 in
theorem reverse_N (base : Nat) (a : Option Addr) (n c : Nat) (ops : List Gop) (w : World) (h : OpsN w base (.slice a n c) ops) (hn : n ≤ 10000) :
    Calls Tryd.prog 25 #[.slice a n c] w fun e w' => e = .returned (.tuple #[]) ∧ OpsN w' base (.slice a n c) ops.reverse ∧ Rvs (.slice a n c) w w' := by
  by_cases h0 : n = 0
  · subst h0
    have hl : ops = [] := List.length_eq_zero_iff.1 h.at.1
    subst hl
    have HO := Lib.hid h
    have wn1 : IntKind.i64.wrap (((0 : Nat) : Int) - 1) = -1 := by decide
    clear h
    go_enter Tryd.func25, Tryd.ntmps25
    go_wp2_with fail
    go_loopg [2, 3] 0 (fun kk s2 s3 wx => s2 = .int .i64 0 ∧ s3 = .int .i64 (-1) ∧ kk = 0 ∧ wx = w)
    case atStart => exact ⟨rfl, rfl, rfl, rfl⟩
    case round =>
      obtain ⟨rfl, rfl, rfl, rfl⟩ := hrel
      go_wp2_with fail
      go_end0
      exact ⟨rfl, HO.out, Rvs.refl _ _⟩
  · obtain ⟨hl, g, cur0, rfl, hb, hg, hnc, hcm, hsz, hsep, hrow⟩ := opsN_open h (by omega)
    have Hsep := Lib.hid hsep
    obtain ⟨n1, hn1⟩ : ∃ x : Int, (n : Int) - 1 = x := ⟨_, rfl⟩
    have wn1 : IntKind.i64.wrap ((n : Int) - 1) = n1 := by rw [IntKind.wrap_i64]; omega
    have Hg := Lib.hid hg; have Hrow := Lib.hid hrow; have Hl := Lib.hid hl; have Hsz := Lib.hid hsz; have Hb := Lib.hid hb; have Hnc := Lib.hid hnc; have Hcm := Lib.hid hcm
    clear h hg hrow hl hsz hb hnc hcm hsep
    go_enter Tryd.func25, Tryd.ntmps25
    go_wp2_with fail
    go_loopg [2, 3] n (fun kk s2 s3 wx => ∃ (i : Nat) (j : Int) (cur : Array Value), s2 = .int .i64 (i : Int) ∧ s3 = .int .i64 j ∧ j = n1 - (i : Int) ∧ 2 * i ≤ n ∧ n - i = kk ∧ wx.heap[g]? = some (.cells cur 43 (0, 0)) ∧ cur.size = c * 6 ∧ SepF (n * 6) (fun p => cur[p]?) ∧ RowF wx base (fun p => cur[p]?) (half ops i) ∧ Only g w wx)
    case atStart => exact ⟨0, n1, cur0, rfl, rfl, by omega, by omega, by omega, Hg.out, Hsz.out, Hsep.out, by rw [half_zero]; exact Hrow.out, Only.refl _ _⟩
    case round =>
      clear Hg Hrow Hsz Hsep
      obtain ⟨i, j, cur, rfl, rfl, hj, h2i, hk, hg, hsz, hsep, hrow, hB⟩ := hrel
      by_cases hlt : (i : Int) < j
      · obtain ⟨jn, rfl⟩ : ∃ m : Nat, j = (m : Int) := ⟨j.toNat, by omega⟩
        have q1' : decide ((i : Int) < (jn : Int)) = true := dt hlt
        have hij : i + jn + 1 = n := by omega
        have b0 : (0 : Int) ≤ (i : Int) := by omega
        have b1 : (i : Int) < (n : Int) := by omega
        have b2 : (0 : Int) ≤ (jn : Int) := by omega
        have b3 : (jn : Int) < (n : Int) := by omega
        obtain ⟨gi, hgi⟩ : ∃ x, ops[i]? = some x := ⟨_, List.getElem?_eq_getElem (by rw [Hl.out]; omega)⟩
        obtain ⟨gj, hgj⟩ : ∃ x, ops[jn]? = some x := ⟨_, List.getElem?_eq_getElem (by rw [Hl.out]; omega)⟩
        obtain ⟨a1, m1, c1, a2, m2, c2, x0, x1, x2, x3, x4, x5, x6⟩ := hrow i gi (by rw [half_get (by rw [Hl.out]; omega) (by rw [Hl.out]; omega), if_neg (by rw [Hl.out]; omega)]; exact hgi)
        obtain ⟨b1', p1, d1, b2', p2, d2, y0, y1, y2, y3, y4, y5, y6⟩ := hrow jn gj (by rw [half_get (by rw [Hl.out]; omega) (by rw [Hl.out]; omega), if_neg (by rw [Hl.out]; omega)]; exact hgj)
        have ce : ∀ (k : Nat) (v : Value), cur[k]? = some v → wr.cell? ⟨g, k, none⟩ = some v := fun k v e => by rw [cell_of_row wr g k cur _ (0, 0) hg]; exact e
        have fz : ∀ k, wr.frozen? ⟨g, k, none⟩ = false := fun k => frozen_of_row wr g k _ _ hg
        have u0 := ce _ _ x0; have u1 := ce _ _ x1; have u2 := ce _ _ x2; have u3 := ce _ _ x3; have u4 := ce _ _ x4; have u5 := ce _ _ x5
        have v0 := ce _ _ y0; have v1 := ce _ _ y1; have v2 := ce _ _ y2; have v3 := ce _ _ y3; have v4 := ce _ _ y4; have v5 := ce _ _ y5
        have wi : IntKind.i64.wrap ((i : Int) + 1) = ((i + 1 : Nat) : Int) := by rw [IntKind.wrap_i64]; omega
        obtain ⟨j1, hj1⟩ : ∃ x : Int, (jn : Int) - 1 = x := ⟨_, rfl⟩
        have wj : IntKind.i64.wrap ((jn : Int) - 1) = j1 := by rw [IntKind.wrap_i64]; omega
        have ne : jn ≠ i := by omega
        have hsp := sepF_swap (cs := cur) (n := n) (i := i) (j := jn) (fi := opF gi a1 m1 c1 a2 m2 c2) (fj := opF gj b1' p1 d1 b2' p2 d2) (by omega) (show jn < n by omega) (by rw [hsz]; have := Hnc.out; omega) (fun k hk6 => by
          rcases (show k = 0 ∨ k = 1 ∨ k = 2 ∨ k = 3 ∨ k = 4 ∨ k = 5 by omega) with rfl | rfl | rfl | rfl | rfl | rfl
          · exact x0
          · exact x1
          · exact x2
          · exact x3
          · exact x4
          · exact x5) (fun k hk6 => by
          rcases (show k = 0 ∨ k = 1 ∨ k = 2 ∨ k = 3 ∨ k = 4 ∨ k = 5 by omega) with rfl | rfl | rfl | rfl | rfl | rfl
          · exact y0
          · exact y1
          · exact y2
          · exact y3
          · exact y4
          · exact y5) hsep
        have Hsp := Lib.hid hsp
        have Hij := Lib.hid hij; have Hj := Lib.hid hj; have Hj1 := Lib.hid hj1; have Hn1 := Lib.hid hn1; have Hlt := Lib.hid hlt
        have Hg := Lib.hid hg; have Hsz := Lib.hid hsz; have Hrow := Lib.hid hrow; have HB := Lib.hid hB
        have Hx6 := Lib.hid x6; have Hy6 := Lib.hid y6; have Hgi := Lib.hid hgi; have Hgj := Lib.hid hgj; have H2i := Lib.hid h2i; have Hk := Lib.hid hk
        obtain ⟨kdi, ki, ctli, qi, bti, cndi⟩ := gi
        obtain ⟨kdj, kj, ctlj, qj, btj, cndj⟩ := gj
        simp only at u0 u1 u3 u4 v0 v1 v3 v4
        clear hsp hsep ce hij hj hj1 hn1 hg hsz hrow hB x6 y6 hgi hgj x0 x1 x2 x3 x4 x5 y0 y1 y2 y3 y4 y5 h2i hk
        have hWo : Only g wr (putAt (putAt wr g (i * 6) (opF ⟨kdj, kj, ctlj, qj, btj, cndj⟩ b1' p1 d1 b2' p2 d2)) g (jn * 6) (opF ⟨kdi, ki, ctli, qi, bti, cndi⟩ a1 m1 c1 a2 m2 c2)) := ((((((putAt_only wr g (i * 6) (opF ⟨kdj, kj, ctlj, qj, btj, cndj⟩ b1' p1 d1 b2' p2 d2)).setCell _ _).setCell _ _).setCell _ _).setCell _ _).setCell _ _).setCell _ _
        have hWr := putAt_row (p := jn * 6) (opF ⟨kdi, ki, ctli, qi, bti, cndi⟩ a1 m1 c1 a2 m2 c2) (putAt_row (p := i * 6) (opF ⟨kdj, kj, ctlj, qj, btj, cndj⟩ b1' p1 d1 b2' p2 d2) Hg.out)
        have hWb : Only g w (putAt (putAt wr g (i * 6) (opF ⟨kdj, kj, ctlj, qj, btj, cndj⟩ b1' p1 d1 b2' p2 d2)) g (jn * 6) (opF ⟨kdi, ki, ctli, qi, bti, cndi⟩ a1 m1 c1 a2 m2 c2)) := HB.out.trans (Only.trans (putAt_only wr g (i * 6) _) (putAt_only _ g (jn * 6) _))
        have hWs : (putAt (putAt wr g (i * 6) (opF ⟨kdj, kj, ctlj, qj, btj, cndj⟩ b1' p1 d1 b2' p2 d2)) g (jn * 6) (opF ⟨kdi, ki, ctli, qi, bti, cndi⟩ a1 m1 c1 a2 m2 c2)).heap.size = wr.heap.size := by rw [putAt_size, putAt_size]
        obtain ⟨Wz, hWz⟩ : ∃ Wz, putAt (putAt wr g (i * 6) (opF ⟨kdj, kj, ctlj, qj, btj, cndj⟩ b1' p1 d1 b2' p2 d2)) g (jn * 6) (opF ⟨kdi, ki, ctli, qi, bti, cndi⟩ a1 m1 c1 a2 m2 c2) = Wz := ⟨_, rfl⟩
        rw [hWz] at hWo hWr hWb hWs
        have hki := only_ints Hg.out (by decide) hWo
        have HRz := Lib.hid (rowF_swap (w' := Wz.drew) Hl.out Hij.out (by have := Hlt.out; omega) (by rw [Hsz.out]; have := Hnc.out; omega) Hrow.out Hgi.out Hgj.out Hx6.out Hy6.out (fun _ _ _ _ _ _ _ ho => ho.keep (w' := Wz.drew) hki))
        have HWz : Hid (_ = Wz) := Lib.hid hWz
        have Hrz := Lib.hid (show Wz.drew.heap[g]? = _ from hWr); have HBz := Lib.hid (Only.drewn hWb)
        have Hs6 := Lib.hid (show (set6 (set6 cur (i * 6) (opF ⟨kdj, kj, ctlj, qj, btj, cndj⟩ b1' p1 d1 b2' p2 d2)) (jn * 6) (opF ⟨kdi, ki, ctli, qi, bti, cndi⟩ a1 m1 c1 a2 m2 c2)).size = c * 6 by rw [set6_size, set6_size]; exact Hsz.out)
        clear hWo hWr hWb hWs hWz hki
        simp only [putAt, opF] at HWz
        go_upto_region 3 with fail
        go_region
        rw [HWz.out]
        generalize Wz.drew = Wd at *
        go_wp2_with fail
        go_roundg (n - (i + 1))
        case measure => have := Hk.out; have := H2i.out; have := Hij.out; omega
        case rel => exact ⟨i + 1, j1, _, rfl, rfl, by have := Hj1.out; have := Hj.out; omega, by have := Hij.out; have := Hlt.out; omega, rfl, Hrz.out, Hs6.out, Hsp.out, HRz.out, HBz.out⟩
      · have q1' : decide ((i : Int) < j) = false := df hlt
        have hdone := half_done (ops := ops) (i := i) (by rw [Hl.out]; exact h2i) (by rw [Hl.out]; omega)
        rw [hdone] at hrow
        have HO := Lib.hid (opsN_close (base := base) (n := n) (c := c) (by rw [List.length_reverse]; exact Hl.out) Hb.out hg Hnc.out Hcm.out hsz hsep hrow)
        have HB := Lib.hid hB
        clear hdone hrow hg hsz hB hj hsep
        go_wp2_with fail
        go_end0
        exact ⟨rfl, HO.out, Rvs.of_only HB.out⟩

end Go.Proofs.YtapolidgocfbjaaDoor
