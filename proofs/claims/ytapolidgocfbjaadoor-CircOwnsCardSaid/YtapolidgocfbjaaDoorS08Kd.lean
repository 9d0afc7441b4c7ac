/-
  The reference's Power of a pure circuit. slices.Grow of nothing, slices.Concat of two rows of operations. A copy of a circuit in memory of its own: as the reference makes it, and as the program does.
-/
import Derived.Test.YtapolidgocfbjaaDoorProg
import Derived.Test.YtapolidgocfbjaaDoorRows
import Derived.BigQuiet
import Derived.Deep.AppendLies
import Derived.Deep.Cut
import Derived.Deep.CutRange
import Derived.Deep.LoopGhost
import Derived.Deep.QuietTactic
import Derived.Deep.RegionHeld3
import Derived.Defers
import Derived.Laws.AppendOwnNone
import Derived.Laws.Bits64b
import Derived.Laws.Concat
import Derived.Laws.CopyOwn
import Derived.Laws.IdiomStrings
import Derived.Laws.ResultCell
import Derived.Lib.AppendStr
import Derived.Lib.AppendZeros
import Derived.Lib.AppendZerosOnto
import Derived.Lib.BitFns
import Derived.Lib.Hide
import Derived.Lib.ItoaMem
import Derived.Lib.ItoaNum
import Derived.Lib.Strings
import Derived.Maps.AppendAt
import Derived.OwnWalk
import Derived.Recover
import Derived.Shelf.LaysM
import Derived.Shelf.Strconv.Itoa0
import Derived.Shelf.Strconv.Itoa1
import Derived.Shelf.Strconv.Itoa2
import Derived.Shelf.Strconv.Itoa3
import Derived.Shelf.Strings.Builder1
import Derived.Shelf.Strings.BuilderF
import Derived.Shelf.Strings.BuilderK
import Derived.WalkKit
import Derived.WalkLawsBesides
import Derived.WalkSpells
import Derived.Test.YtapolidgocfbjaaDoorS00Ce
import Derived.Test.YtapolidgocfbjaaDoorS01Cj
import Derived.Test.YtapolidgocfbjaaDoorShelf
import Derived.Test.YtapolidgocfbjaaDoorS03Cq
import Derived.Test.YtapolidgocfbjaaDoorS04Jc
import Derived.Test.YtapolidgocfbjaaDoorS05Gb
import Derived.Test.YtapolidgocfbjaaDoorS06Ke
import Derived.Test.YtapolidgocfbjaaDoorS07Kf
namespace Go.Proofs.YtapolidgocfbjaaDoor
open Go.RowKit

/-- Blocks of ints stand, and older rows of operations. -/
def Kp (base : Nat) (a d : World) : Prop :=
  (∀ (b : Nat) (cur : Array Value) (fr : Nat × Nat), a.heap[b]? = some (.cells cur 3 fr) → d.heap[b]? = a.heap[b]?) ∧
  ∀ (b : Nat) (cur : Array Value) (fr : Nat × Nat), b < base → a.heap[b]? = some (.cells cur 43 fr) → d.heap[b]? = a.heap[b]?
theorem Kp.step {base k : Nat} {a b c d : World} {v : Value} {cs : Array Value} {fr : Nat × Nat} (he : Ext a b) (hg : b.grownBy c v.ownBlock) (hk : ∀ k, v.ownBlock = some k → base ≤ k ∧ ∃ cs fr, b.heap[k]? = some (.cells cs 43 fr)) (hO : Only k c d) (hr : c.heap[k]? = some (.cells cs 24 fr)) : Kp base a d := by
  refine ⟨fun x cur f hx => ?_, fun x cur f hb hx => ?_⟩
  · have h1 := he.block x (Array.getElem?_eq_some_iff.1 hx).1
    have h2 := grown_ints hg hk x cur f (h1.trans hx)
    have h3 := hO.block x (fun e => by rw [← e, h2, h1, hx] at hr; cases hr)
    exact h3.trans (h2.trans h1)
  · have h1 := he.block x (Array.getElem?_eq_some_iff.1 hx).1
    have h2 := hg.block x (Array.getElem?_eq_some_iff.1 (h1.trans hx)).1 (fun e => by have := (hk x e.symm).1; omega)
    have h3 := hO.block x (fun e => by rw [← e, h2, h1, hx] at hr; cases hr)
    exact h3.trans (h2.trans h1)
theorem OpsN.kp {base B : Nat} {a d : World} {v : Value} {ops : List Gop} (h : OpsN a B v ops) (hv : ∀ k, v.ownBlock = some k → k < base) (hk : Kp base a d) : OpsN d B v ops := by
  obtain ⟨xs, hx⟩ := h
  exact ⟨xs, hx.keep (fun g hg => by obtain ⟨_, cs, fr, e⟩ := PtKind hx.own g hg; exact hk.2 g cs fr (hv g hg) e) hk.1⟩
theorem OpsN.lt {B : Nat} {a : World} {v : Value} {ops : List Gop} (h : OpsN a B v ops) : ∀ k, v.ownBlock = some k → k < a.heap.size := fun k hk => by
  obtain ⟨xs, hx⟩ := h
  exact (own_lt hx.own k hk).2

set_option maxHeartbeats 8000000 in
set_option maxRecDepth 100000 in
theorem RPower_yes (c : Gci) (ao : Option Addr) (n cp : Nat) (x : Int) (w : World) (h : OpsAt w ao n c.ops) (hn : n ≤ cp) (hcp : cp ≤ 9223372036854775807) (hp : (pur c).1 = 0) (hx0 : -9223372036854775808 ≤ x) (hx1 : x ≤ 9223372036854775807) :
    Calls Tryd.prog 18 #[.agg #[.int .i64 c.qubits, .int .i64 c.bits, .slice ao n cp], .int .i64 x] w fun e w' =>
      ((0 < n ∧ 4096 / n < x.natAbs ∧ e = .returned (.tuple #[.agg #[.int .i64 0, .int .i64 0, .slice none 0 0], .agg #[.int .i64 2, .int .i64 0]])) ∨
       ((n = 0 ∨ x.natAbs ≤ 4096 / n) ∧ ∃ (a' : Option Addr) (m c' : Nat), m = (repO x.natAbs (onceO x c.ops)).length ∧ e = .returned (.tuple #[.agg #[.int .i64 c.qubits, .int .i64 c.bits, .slice a' m c'], .agg #[.int .i64 0, .int .i64 0]]) ∧ OpsN w' w.heap.size (.slice a' m c') (repO x.natAbs (onceO x c.ops)))) ∧ Ext w w' := by
  obtain ⟨hck, hpz⟩ := pur_zero hp
  obtain ⟨hz, hq1, hq2, hb1, hb2, hl4, hop⟩ := chk_zero hck
  obtain ⟨i0, hi, hz0, hz1, hz2⟩ := info_parts op_info
  have hfit : ∀ g ∈ onceO x c.ops, g.ctl.length ≤ 1000 ∧ g.cnd.length ≤ 1000 := fun g hg => by
    have key : ∀ g ∈ c.ops, g.ctl.length ≤ 1000 ∧ g.cnd.length ≤ 1000 := fun g hg => by
      have f := prFit_of_code hq2 hb1 hb2 (hop g hg)
      exact ⟨Nat.le_trans f.few (by decide), Nat.le_trans f.cfew (by decide)⟩
    unfold onceO at hg
    split at hg
    · unfold invO at hg
      obtain ⟨g', hg', rfl⟩ := List.mem_map.1 hg
      exact key g' (List.mem_reverse.1 hg')
    · exact key g hg
  have hl : c.ops.length = n := h.1
  rw [hl] at hl4
  have HInv := Lib.hid (fun wx (hx : Ext w wx) => RInverse_yes c ao n cp wx (h.ext hx) hn hcp hp)
  obtain ⟨qb, bi, ops⟩ := c
  simp only at hfit hl h HInv ⊢
  obtain ⟨os1, hos⟩ : ∃ y, onceO x ops = y := ⟨_, rfl⟩
  have Hosl := Lib.hid (show os1.length = n by rw [← hos, onceO_len]; exact hl)
  have HosN := Lib.hid (show x < 0 → invO ops = os1 from fun hx => by rw [← hos, onceO, if_pos hx])
  have HosP := Lib.hid (show ¬ x < 0 → ops = os1 from fun hx => by rw [← hos, onceO, if_neg hx])
  rw [hos] at hfit ⊢
  obtain ⟨tm, htm⟩ : ∃ y, x.natAbs = y := ⟨_, rfl⟩
  have htb : tm ≤ 9223372036854775808 := by rw [← htm]; omega
  rw [htm]
  have Htm := Lib.hid htm
  obtain ⟨H, hH⟩ : ∃ H, w.heap.size = H := ⟨_, rfl⟩
  obtain ⟨A1, hA1⟩ : ∃ A1, w.alloc (.cells #[.int .i64 qb, .int .i64 bi, .slice ao n cp] 24) = A1 := ⟨_, rfl⟩
  obtain ⟨A2, hA2⟩ : ∃ A2, A1.alloc (.cells #[.int .i64 0, .int .i64 0, .slice none 0 0] 24) = A2 := ⟨_, rfl⟩
  obtain ⟨A3, hA3⟩ : ∃ A3, A2.alloc (.cells #[.int .i64 0, .int .i64 0] 28) = A3 := ⟨_, rfl⟩
  have s1 : A1.heap.size = H + 1 := by rw [← hA1, ← hH]; simp
  have s2 : A2.heap.size = H + 2 := by rw [← hA2]; simp; omega
  have s3 : A3.heap.size = H + 3 := by rw [← hA3]; simp; omega
  have x1 : Ext w A1 := by rw [← hA1]; exact ext_al _ _
  have x2 : Ext A1 A2 := by rw [← hA2]; exact ext_al _ _
  have x3 : Ext A2 A3 := by rw [← hA3]; exact ext_al _ _
  have bC : CiB A3 H qb bi ao n cp := by
    have : CiB A1 H qb bi ao n cp := by rw [← hA1, ← hH]; exact ⟨heap_alloc_new w _⟩
    exact (this.ext x2).ext x3
  have bR : CiB A3 (H + 1) 0 0 none 0 0 := by
    have : CiB A2 (H + 1) 0 0 none 0 0 := by rw [← hA2, ← s1]; exact ⟨heap_alloc_new A1 _⟩
    exact this.ext x3
  have bF : FtB A3 (H + 2) 0 0 := by rw [← hA3, ← s2]; exact ⟨heap_alloc_new A2 _⟩
  have E0 : Ext w A3 := (x1.trans x2).trans x3
  have hA : ((w.alloc (.cells #[.int .i64 qb, .int .i64 bi, .slice ao n cp] 24)).alloc (.cells #[.int .i64 0, .int .i64 0, .slice none 0 0] 24)).alloc (.cells #[.int .i64 0, .int .i64 0] 28) = A3 := by rw [hA1, hA2, hA3]
  have HK := Lib.hid (RPure_any ⟨qb, bi, ops⟩ ao n cp A3 (h.ext E0) hn hcp)
  rw [hpz] at HK
  simp only at HK
  have m0 := bC.x0; have m1 := bC.x1; have m2 := bC.x2
  rw [← hA] at m0 m1 m2
  have HA := Lib.hid hA; have HE0 := Lib.hid E0; have HC := Lib.hid bC; have HR := Lib.hid bR; have HFt := Lib.hid bF
  have Hops := Lib.hid h; have Hfit := Lib.hid hfit; have Hl := Lib.hid hl; have Hs3 := Lib.hid s3; have HhH := Lib.hid hH
  clear h hpz E0 bC bR bF x1 x2 x3 s1 s2 s3 hA1 hA2 hA3 hA hfit hl hck hz hq1 hq2 hb1 hb2 hop hp hos htm
  go_enter Tryd.func18, Tryd.ntmps18
  go_wp2_with fail
  rw [HA.out]
  refine HK.out.mono ?_
  rintro e w1 ⟨rfl, hx1'⟩
  have Ef := ext_al w1 (.cells #[.int .i64 0, .int .i64 0] 28)
  have EO := ext_al (w1.alloc (.cells #[.int .i64 0, .int .i64 0] 28)) (.cells #[.int .i64 qb, .int .i64 bi, .slice none 0 0] 24)
  have EB := ext_al ((w1.alloc (.cells #[.int .i64 0, .int .i64 0] 28)).alloc (.cells #[.int .i64 qb, .int .i64 bi, .slice none 0 0] 24)) (.cells #[.int .i64 qb, .int .i64 bi, .slice ao n cp] 24)
  have bf1 : FtB (w1.alloc (.cells #[.int .i64 0, .int .i64 0] 28)) w1.heap.size 0 0 := ⟨heap_alloc_new w1 _⟩
  have sz1 : (w1.alloc (.cells #[.int .i64 0, .int .i64 0] 28)).heap.size = w1.heap.size + 1 := by simp
  have sz2 : ((w1.alloc (.cells #[.int .i64 0, .int .i64 0] 28)).alloc (.cells #[.int .i64 qb, .int .i64 bi, .slice none 0 0] 24)).heap.size = w1.heap.size + 2 := by simp
  have bO2 : CiB ((w1.alloc (.cells #[.int .i64 0, .int .i64 0] 28)).alloc (.cells #[.int .i64 qb, .int .i64 bi, .slice none 0 0] 24)) (w1.heap.size + 1) qb bi none 0 0 := by rw [← sz1]; exact ⟨heap_alloc_new _ _⟩
  have bB3 : CiB (((w1.alloc (.cells #[.int .i64 0, .int .i64 0] 28)).alloc (.cells #[.int .i64 qb, .int .i64 bi, .slice none 0 0] 24)).alloc (.cells #[.int .i64 qb, .int .i64 bi, .slice ao n cp] 24)) (w1.heap.size + 2) qb bi ao n cp := by rw [← sz2]; exact ⟨heap_alloc_new _ _⟩
  have q0 := bf1.x0
  have hX := hx1'.trans Ef
  have bC1 := HC.out.ext hX
  have y0 := bC1.x0; have y1 := bC1.x1
  have bC2 := bC1.ext EO
  have z0 := bC2.x0; have z1 := bC2.x1; have z2 := bC2.x2
  have HC3 := Lib.hid (bC2.ext EB); have HR3 := Lib.hid (((HR.out.ext hX).ext EO).ext EB); have HF3 := Lib.hid (((HFt.out.ext hX).ext EO).ext EB); have HE3 := Lib.hid (((HE0.out.trans hX).trans EO).trans EB); have Hf3 := Lib.hid ((bf1.ext EO).ext EB); have HO3 := Lib.hid (bO2.ext EB); have HB3 := Lib.hid bB3
  have Hlo := Lib.hid (show H + 3 ≤ w1.heap.size by have := hx1'.size; have := Hs3.out; omega)
  clear hx1' Ef EO EB bf1 hX bC1 bC2 HK HC HR HFt HE0 m0 m1 m2 sz1 sz2 bO2 bB3
  go_upto_if 24 with fail
  generalize (((w1.alloc (.cells #[.int .i64 0, .int .i64 0] 28)).alloc (.cells #[.int .i64 qb, .int .i64 bi, .slice none 0 0] 24)).alloc (.cells #[.int .i64 qb, .int .i64 bi, .slice ao n cp] 24)) = V0 at *
  obtain ⟨Fb, hFb⟩ : ∃ y, w1.heap.size = y := ⟨_, rfl⟩
  rw [hFb] at HO3 Hf3 HB3 Hlo ⊢
  obtain ⟨Ob, hOb⟩ : ∃ y, Fb + 1 = y := ⟨_, rfl⟩
  obtain ⟨Bb, hBb⟩ : ∃ y, Fb + 2 = y := ⟨_, rfl⟩
  have hBb' : Ob + 1 = Bb := by omega
  rw [hBb] at HB3
  rw [hOb] at HO3 ⊢
  rw [hBb'] at ⊢
  have hlo := Hlo.out
  have nF1 : Fb ≠ H + 1 := by omega
  have nF2 : Fb ≠ H + 2 := by omega
  have nO1 : Ob ≠ H + 1 := by omega
  have nO2 : Ob ≠ H + 2 := by omega
  have nOF : Fb ≠ Ob := by omega
  have nB0 : H ≠ Bb := by omega
  have nB1 : H + 1 ≠ Bb := by omega
  have nB2 : H + 2 ≠ Bb := by omega
  have nBF : Fb ≠ Bb := by omega
  have nBO : Ob ≠ Bb := by omega
  have nBO' : Bb ≠ Ob := by omega
  have HwO := Lib.hid (show w.heap.size ≤ Ob by omega); have HwBb := Lib.hid (show w.heap.size ≤ Bb by omega)
  clear q0 y0 y1 z0 z1 z2 hFb hOb hBb hBb' hlo
  go_cut [] from 24 to 29 (fun wx => ∃ (aB : Option Addr) (cB : Nat) (Q : World → Prop), CiB wx Bb qb bi aB n cB ∧ CiB wx H qb bi ao n cp ∧ CiB wx (H + 1) 0 0 none 0 0 ∧ FtB wx (H + 2) 0 0 ∧ FtB wx Fb 0 0 ∧ CiB wx Ob qb bi none 0 0 ∧ Ext w wx ∧ Q wx ∧ (∀ u, Q u → OpsAt u aB n os1) ∧ (∀ u v, Q u → Ext w v → Kp wx.heap.size u v → Q v) ∧ n ≤ cB ∧ cB ≤ 9223372036854775807)
  case first =>
    by_cases hx : x < 0
    · have hd : decide (x < 0) = true := dt hx
      have y0 := HC3.out.x0; have y1 := HC3.out.x1; have y2 := HC3.out.x2
      have HoE := Lib.hid (HosN.out hx)
      go_wp2_with fail
      refine (HInv.out V0 HE3.out).mono ?_
      rintro e w3 ⟨⟨aB, cB, rfl, hO⟩, hx3⟩
      have hBb3 := HB3.out.ext hx3
      have z0 := hBb3.x0; have z1 := hBb3.x1; have z2 := hBb3.x2; have g0 := hBb3.f 0; have g1 := hBb3.f 1; have g2 := hBb3.f 2
      have hP : Only Bb w3 (((w3.setCell ⟨Bb, 0, none⟩ (.int .i64 qb)).setCell ⟨Bb, 1, none⟩ (.int .i64 bi)).setCell ⟨Bb, 2, none⟩ (.slice aB n cB)) := (((Only.refl _ _).setCell _ _).setCell _ _).setCell _ _
      have hOz := hO.far hBb3.row (by decide) (by decide) hP
      rw [HoE.out] at hOz
      have HbZ := Lib.hid (((hBb3.set0 qb).set1 bi).set2 aB n cB); have HOz := Lib.hid hOz
      have HCz := Lib.hid ((HC3.out.ext hx3).kept hP nB0); have HRz := Lib.hid ((HR3.out.ext hx3).kept hP nB1); have HFz := Lib.hid ((HF3.out.ext hx3).kept hP nB2); have Hfz := Lib.hid ((Hf3.out.ext hx3).kept hP nBF); have HOo := Lib.hid ((HO3.out.ext hx3).kept hP nBO)
      have HEz := Lib.hid (ext_only (HE3.out.trans hx3) hP HwBb.out)
      clear hx3 hO hBb3 hP hOz y0 y1 y2
      go_wp2_with fail
      go_meet
      have h1 := HOz.out.at
      refine ⟨aB, cB, fun u => OpsN u V0.heap.size (.slice aB n cB) os1, HbZ.out, HCz.out, HRz.out, HFz.out, Hfz.out, HOo.out, HEz.out, HOz.out, fun u hu => hu.at.2.2.2, fun u v hu _ hkp => hu.kp HOz.out.lt hkp, h1.2.1, h1.2.2.1⟩
    · have hd : decide (x < 0) = false := df hx
      have HoE := Lib.hid (HosP.out (by omega))
      go_wp2_with fail
      go_meet
      exact ⟨ao, cp, fun u => Ext w u, HB3.out, HC3.out, HR3.out, HF3.out, Hf3.out, HO3.out, HE3.out, HE3.out, fun u hu => by rw [← HoE.out]; exact Hops.out.ext hu, fun u v _ h _ => h, hn, hcp⟩
  case rest =>
  obtain ⟨aB, cB, Q, bB, bC, bR, bF, bf, bO, hX, hQ, hQat, hQk, hcB1, hcB2⟩ := hcut
  obtain ⟨base, hbase⟩ : ∃ y, wc.heap.size = y := ⟨_, rfl⟩
  rw [hbase] at hQk
  have HQat := Lib.hid hQat; have HQk := Lib.hid hQk
  have Hbw := Lib.hid (show w.heap.size ≤ base by rw [← hbase]; exact hX.size)
  have HFbB := Lib.hid (show Bb < base by rw [← hbase]; exact bB.lt)
  have hc2 := bC.x2
  have HbaseE := Lib.hid hbase
  have Hbnd := Lib.hid (show ∀ b o, aB = some ⟨b, o, none⟩ → 0 < n → b < base from fun b o e h0 => by
    rcases (hQat wc hQ).2 with h1 | ⟨b', o', e', hb', _⟩
    · omega
    · rw [e] at e'; cases e'; rw [← hbase]; exact hb')
  clear HC3 HR3 HF3 Hf3 HO3 HB3 HE3 HInv hbase hQat hQk
  by_cases hn0 : n = 0
  · subst hn0
    have hr0 : repO tm os1 = [] := by
      have : os1 = [] := List.length_eq_zero_iff.1 Hosl.out
      rw [this]
      simp [repO]
    have Hr0 := Lib.hid hr0
    clear hr0
    have hown : OpsN wc base (.slice none 0 0) [] := OpsN.nil _ _
    clear bB bC
    have y0 := bO.x0; have y1 := bO.x1; have y2 := bO.x2
    have r0 := bR.x0; have r1 := bR.x1; have r2 := bR.x2; have g0 := bR.f 0; have g1 := bR.f 1; have g2 := bR.f 2
    have f0 := bF.x0; have f1 := bF.x1; have k0 := bF.f 0; have k1 := bF.f 1
    have d0 := bf.x0; have d1 := bf.x1
    have zC := (putCF_C bR (show H + 1 ≠ H + 2 by omega) qb bi none 0 0 0 0).drew
    have zF := (putCF_F bF (show H + 1 ≠ H + 2 by omega) qb bi none 0 0 0 0).drew
    have zO : OpsN (putCF wc (H + 1) (H + 2) qb bi none 0 0 0 0).drew base (.slice none 0 0) [] := OpsN.ext (putCF_opsN hown bR bF (show H + 1 ≠ H + 2 by omega) qb bi none 0 0 0 0) (cdrew (Ext.refl _))
    have zE : Ext w (putCF wc (H + 1) (H + 2) qb bi none 0 0 0 0).drew := Below.drew (putCF_ext hX (show w.heap.size ≤ H + 1 by omega) (show w.heap.size ≤ H + 2 by omega) _ _ _ _ _ _ _)
    obtain ⟨Wz, hWz⟩ : ∃ Wz, putCF wc (H + 1) (H + 2) qb bi none 0 0 0 0 = Wz := ⟨_, rfl⟩
    rw [hWz] at zC zF zO zE
    unfold putCF at hWz
    have HWz := Lib.hid hWz; have HzE := Lib.hid zE; have HzO := Lib.hid (zO.down (show w.heap.size ≤ base by have := Hbw.out; omega)); have HzH := Lib.hid (zO.down (show H ≤ base by have := Hbw.out; omega))
    have v0 := zC.x0; have v1 := zC.x1; have v2 := zC.x2; have v3 := zF.x0; have v4 := zF.x1
    clear zC zF zO zE hWz bR bF bf bO hX hown
    go_upto_region 9 with fail
    go_region
    go_wp2_with fail
    rw [HWz.out]
    exact bodyPost_ret (v := .tuple #[.agg #[.int .i64 qb, .int .i64 bi, .slice none 0 0], .agg #[.int .i64 0, .int .i64 0]]) (by simp [results, Tryd.results18, go_sem, v0, v1, v2, v3, v4]) rfl ⟨(by first | exact Or.inr ⟨Or.inl rfl, none, 0, 0, by rw [Hr0.out]; rfl, rfl, by rw [Hr0.out]; exact HzO.out⟩ | exact ⟨none, 0, by rw [Hr0.out]; rfl, by rw [Hr0.out]; first | exact HzO.out | exact HzH.out⟩), HzE.out⟩
  have p0 : ¬ (n : Int) = 0 := by omega
  have p0' : ((n : Int) == 0) = false := by simp [hn0]
  have hn1 : 1 ≤ n := by omega
  have HB4 := Lib.hid bB; have HR4 := Lib.hid bR; have HF4 := Lib.hid bF; have Hf4 := Lib.hid bf; have HO4 := Lib.hid bO; have HX4 := Lib.hid hX; have HQ4 := Lib.hid hQ
  clear bB bC bR bF bf bO hX hQ
  go_wp2_with fail
  clear hc2 p0 p0'
  go_loopg [1, 9] 4097 (fun kk s1 s9 wx => ∃ (k : Nat) (x' : Int) (av : Option Addr) (cv L : Nat), s1 = .int .i64 x' ∧ (x < 0 → x' = x + (k : Int)) ∧ (¬ x < 0 → x' = x - (k : Int)) ∧ k ≤ tm ∧ L = k * n ∧ L ≤ 4096 ∧ 4097 - k = kk ∧ CiB wx Bb qb bi aB n cB ∧ CiB wx (H + 1) 0 0 none 0 0 ∧ FtB wx (H + 2) 0 0 ∧ FtB wx Fb 0 0 ∧ CiB wx Ob qb bi av L cv ∧ OpsN wx base (.slice av L cv) (repO k os1) ∧ Q wx ∧ Ext w wx ∧ base ≤ wx.heap.size)
  case atStart => exact ⟨0, x, none, 0, 0, rfl, fun _ => by omega, fun _ => by omega, Nat.zero_le _, by omega, by omega, rfl, HB4.out, HR4.out, HF4.out, Hf4.out, HO4.out, OpsN.nil _ _, HQ4.out, HX4.out, by have := HbaseE.out; omega⟩
  case round =>
    clear HB4 HR4 HF4 Hf4 HO4 HX4 HQ4
    obtain ⟨k, x', av, cv, L, rfl, hxn, hxp, hkt, hL, hL4, hk, bB, bR, bF, bf, bO, hown, hQ, hX, hbs⟩ := hrel
    have htm := Htm.out
    have hkL : k ≤ L := by rw [hL]; exact Nat.le_mul_of_pos_right k (by omega)
    by_cases hke : k = tm
    · have hx' : x' = 0 := by
        by_cases hx : x < 0
        · have := hxn hx; omega
        · have := hxp hx; omega
      have e1 : (x' != 0) = false := by simp [hx']
      have e2 : (x' == 0) = true := by simp [hx']
      have hsm : tm ≤ 4096 / n := by rw [Nat.le_div_iff_mul_le (by omega), ← hke, ← hL]; exact hL4
      have Hsm := Lib.hid hsm
      have HLe := Lib.hid (show L = (repO tm os1).length by rw [repO_len, Hosl.out, ← hke]; exact hL)
      rw [hke] at hown
      clear hx' hsm bB hQ hbs hxn hxp hkt hL hL4 hk hkL hke htm
      have y0 := bO.x0; have y1 := bO.x1; have y2 := bO.x2
      have r0 := bR.x0; have r1 := bR.x1; have r2 := bR.x2; have g0 := bR.f 0; have g1 := bR.f 1; have g2 := bR.f 2
      have f0 := bF.x0; have f1 := bF.x1; have k0 := bF.f 0; have k1 := bF.f 1
      have d0 := bf.x0; have d1 := bf.x1
      have zC := (putCF_C bR (show H + 1 ≠ H + 2 by omega) qb bi av L cv 0 0).drew
      have zF := (putCF_F bF (show H + 1 ≠ H + 2 by omega) qb bi av L cv 0 0).drew
      have zO : OpsN (putCF wr (H + 1) (H + 2) qb bi av L cv 0 0).drew base (.slice av L cv) (repO tm os1) := OpsN.ext (putCF_opsN hown bR bF (show H + 1 ≠ H + 2 by omega) qb bi av L cv 0 0) (cdrew (Ext.refl _))
      have zE : Ext w (putCF wr (H + 1) (H + 2) qb bi av L cv 0 0).drew := Below.drew (putCF_ext hX (show w.heap.size ≤ H + 1 by omega) (show w.heap.size ≤ H + 2 by omega) _ _ _ _ _ _ _)
      obtain ⟨Wz, hWz⟩ : ∃ Wz, putCF wr (H + 1) (H + 2) qb bi av L cv 0 0 = Wz := ⟨_, rfl⟩
      rw [hWz] at zC zF zO zE
      unfold putCF at hWz
      have HWz := Lib.hid hWz; have HzE := Lib.hid zE; have HzO := Lib.hid (zO.down (show w.heap.size ≤ base by have := Hbw.out; omega)); have HzH := Lib.hid (zO.down (show H ≤ base by have := Hbw.out; omega))
      have v0 := zC.x0; have v1 := zC.x1; have v2 := zC.x2; have v3 := zF.x0; have v4 := zF.x1
      clear zC zF zO zE hWz bR bF bf bO hX hown
      go_upto_region 20 with fail
      go_region
      go_wp2_with fail
      rw [HWz.out]
      exact bodyPost_ret (v := .tuple #[.agg #[.int .i64 qb, .int .i64 bi, .slice av L cv], .agg #[.int .i64 0, .int .i64 0]]) (by simp [results, Tryd.results18, go_sem, v0, v1, v2, v3, v4]) rfl ⟨(by first | exact Or.inr ⟨Or.inr Hsm.out, av, L, cv, HLe.out, rfl, HzO.out⟩ | exact Or.inr ⟨Hsm.out, av, cv, by rw [← HLe.out], by rw [← HLe.out]; first | exact HzO.out | exact HzH.out⟩), HzE.out⟩
    have hne : x' ≠ 0 := by
      intro e
      by_cases hx : x < 0
      · have := hxn hx; omega
      · have := hxp hx; omega
    have e1 : (x' != 0) = true := by simp [hne]
    have e2 : (x' == 0) = false := by simp [hne]
    obtain ⟨Ln, hLn⟩ : ∃ y, L + n = y := ⟨_, rfl⟩
    have wl : IntKind.i64.wrap ((L : Int) + (n : Int)) = (Ln : Int) := by rw [IntKind.wrap_i64]; omega
    have HLn := Lib.hid hLn
    have hkn : (k + 1) * n = Ln := by rw [Nat.succ_mul, ← hL]; exact hLn
    have y2 := bO.x2; have c2 := bB.x2
    by_cases hbig : 4096 < Ln
    · have p9 : (4096 : Int) < (Ln : Int) := by omega
      have p9' : decide ((4096 : Int) < (Ln : Int)) = true := dt p9
      have Hres := Lib.hid (show 0 < n ∧ 4096 / n < tm from ⟨by omega, Nat.lt_of_lt_of_le (Nat.div_lt_of_lt_mul (by rw [Nat.mul_comm, hkn]; exact hbig)) (show k + 1 ≤ tm by omega)⟩)
      have HR := Lib.hid bR; have HF := Lib.hid bF; have HE := Lib.hid hX
      clear bB bR bF bf bO hown hQ hX hbs hxn hxp hkt hL hk hkL hke htm hne hLn hkn hbig
      go_wp2_with fail
      refine (rfault_any 2 0 wr).mono ?_
      rintro e w5 ⟨rfl, hx5⟩
      have bR := HR.out.ext hx5; have bF := HF.out.ext hx5
      have r0 := bR.x0; have r1 := bR.x1; have r2 := bR.x2; have g0 := bR.f 0; have g1 := bR.f 1; have g2 := bR.f 2
      have f0 := bF.x0; have f1 := bF.x1; have k0 := bF.f 0; have k1 := bF.f 1
      have zC := putCF_C bR (show H + 1 ≠ H + 2 by omega) 0 0 none 0 0 2 0
      have zF := putCF_F bF (show H + 1 ≠ H + 2 by omega) 0 0 none 0 0 2 0
      have zE : Ext w (putCF w5 (H + 1) (H + 2) 0 0 none 0 0 2 0) := putCF_ext (HE.out.trans hx5) (show w.heap.size ≤ H + 1 by omega) (show w.heap.size ≤ H + 2 by omega) _ _ _ _ _ _ _
      obtain ⟨Wz, hWz⟩ : ∃ Wz, putCF w5 (H + 1) (H + 2) 0 0 none 0 0 2 0 = Wz := ⟨_, rfl⟩
      rw [hWz] at zC zF zE
      unfold putCF at hWz
      have HWz := Lib.hid hWz; have HzE := Lib.hid zE
      have v0 := zC.x0; have v1 := zC.x1; have v2 := zC.x2; have v3 := zF.x0; have v4 := zF.x1
      clear zC zF zE hWz bR bF hx5 y2 c2
      go_wp2_with fail
      rw [HWz.out]
      exact bodyPost_ret (v := .tuple #[.agg #[.int .i64 0, .int .i64 0, .slice none 0 0], .agg #[.int .i64 2, .int .i64 0]]) (by simp [results, Tryd.results18, go_sem, v0, v1, v2, v3, v4]) rfl ⟨Or.inl ⟨Hres.out.1, Hres.out.2, rfl⟩, HzE.out⟩
    have p9 : ¬ (4096 : Int) < (Ln : Int) := by omega
    have p9' : decide ((4096 : Int) < (Ln : Int)) = false := df p9
    have HB5 := Lib.hid bB; have HR5 := Lib.hid bR; have HF5 := Lib.hid bF; have Hf5 := Lib.hid bf; have HO5 := Lib.hid bO; have Hown5 := Lib.hid hown; have HQ5 := Lib.hid hQ; have HX5 := Lib.hid hX; have Hbs5 := Lib.hid hbs
    have Hxn := Lib.hid hxn; have Hxp := Lib.hid hxp; have HL := Lib.hid hL; have Hkn := Lib.hid hkn; have Hk := Lib.hid hk; have HkL := Lib.hid hkL; have Hke := Lib.hid (show k < tm by omega); have Hne := Lib.hid hne
    have hLn4 : Ln ≤ 4096 := by omega
    clear bB bR bF bf bO hown hQ hX hbs hxn hxp hkt hL hk hkL hke htm hne hkn hbig
    obtain ⟨wo, rfl⟩ : ∃ wo : World, wo = wr := ⟨_, rfl⟩
    go_wp2_with fail
    clear y2 c2 e1 e2 wl p9 p9'
    go_loopg [9] n (fun kk s9 wx => ∃ (i : Nat) (av : Option Addr) (cv : Nat), s9 = .int .i64 (i : Int) ∧ i ≤ n ∧ n - i = kk ∧ CiB wx Bb qb bi aB n cB ∧ CiB wx (H + 1) 0 0 none 0 0 ∧ FtB wx (H + 2) 0 0 ∧ FtB wx Fb 0 0 ∧ CiB wx Ob qb bi av (L + i) cv ∧ OpsN wx base (.slice av (L + i) cv) (repO k os1 ++ os1.take i) ∧ Q wx ∧ Ext w wx ∧ base ≤ wx.heap.size)
    case atStart => exact ⟨0, av, cv, rfl, by omega, by omega, HB5.out, HR5.out, HF5.out, Hf5.out, HO5.out, by rw [List.take_zero, List.append_nil]; exact Hown5.out, HQ5.out, HX5.out, Hbs5.out⟩
    case round =>
      clear HB5 HR5 HF5 Hf5 HO5 Hown5 HQ5 HX5 Hbs5
      obtain ⟨i, av, cv, rfl, hin', hki, bB, bR, bF, bf, bO, hown, hQ, hX, hbs⟩ := hrel
      have c2 := bB.x2
      by_cases hin : i = n
      · have q1 : ¬ (i : Int) < (n : Int) := by omega
        have q1' : decide ((i : Int) < (n : Int)) = false := df q1
        rw [List.take_of_length_le (by rw [Hosl.out]; omega), ← repO_succ] at hown
        have hLi : L + i = Ln := by have := HLn.out; omega
        rw [hLi] at hown bO
        have HB6 := Lib.hid bB; have HR6 := Lib.hid bR; have HF6 := Lib.hid bF; have Hf6 := Lib.hid bf; have HO6 := Lib.hid bO; have Hown6 := Lib.hid hown; have HQ6 := Lib.hid hQ; have HX6 := Lib.hid hX; have Hbs6 := Lib.hid hbs
        clear bB bR bF bf bO hown hQ hX hbs hin hin' hki hLi
        have htm := Htm.out; have hke := Hke.out; have hkL := HkL.out; have hk := Hk.out
        by_cases hx : x < 0
        · have hx' := Hxn.out hx
          have e3 : ¬ (0 : Int) < x' := by omega
          have e4 : decide ((0 : Int) < x') = false := df e3
          obtain ⟨x2, hx2⟩ : ∃ y : Int, x' + 1 = y := ⟨_, rfl⟩
          have wx2 : IntKind.i64.wrap (x' + 1) = x2 := by rw [IntKind.wrap_i64]; omega
          have Hx2 := Lib.hid (show (x < 0 → x2 = x + ((k + 1 : Nat) : Int)) ∧ (¬ x < 0 → x2 = x - ((k + 1 : Nat) : Int)) from ⟨fun _ => by omega, fun h => absurd hx h⟩)
          clear hx' hx2 htm hke hkL hk
          go_wp2_with fail
          go_roundg (4097 - (k + 1))
          case measure => have := Hk.out; have := HkL.out; omega
          case rel => exact ⟨k + 1, x2, av, cv, Ln, rfl, Hx2.out.1, Hx2.out.2, Hke.out, Hkn.out.symm, hLn4, rfl, HB6.out, HR6.out, HF6.out, Hf6.out, HO6.out, Hown6.out, HQ6.out, HX6.out, Hbs6.out⟩
        · have hx' := Hxp.out (by omega)
          have e3 : (0 : Int) < x' := by omega
          have e4 : decide ((0 : Int) < x') = true := dt e3
          obtain ⟨x2, hx2⟩ : ∃ y : Int, x' - 1 = y := ⟨_, rfl⟩
          have wx2 : IntKind.i64.wrap (x' - 1) = x2 := by rw [IntKind.wrap_i64]; omega
          have Hx2 := Lib.hid (show (x < 0 → x2 = x + ((k + 1 : Nat) : Int)) ∧ (¬ x < 0 → x2 = x - ((k + 1 : Nat) : Int)) from ⟨fun h => absurd h hx, fun _ => by omega⟩)
          clear hx' hx2 htm hke hkL hk
          go_wp2_with fail
          go_roundg (4097 - (k + 1))
          case measure => have := Hk.out; have := HkL.out; omega
          case rel => exact ⟨k + 1, x2, av, cv, Ln, rfl, Hx2.out.1, Hx2.out.2, Hke.out, Hkn.out.symm, hLn4, rfl, HB6.out, HR6.out, HF6.out, Hf6.out, HO6.out, Hown6.out, HQ6.out, HX6.out, Hbs6.out⟩
      · have q1 : (i : Int) < (n : Int) := by omega
        have q1' : decide ((i : Int) < (n : Int)) = true := dt q1
        have q0 : (0 : Int) ≤ (i : Int) := by omega
        obtain ⟨gg, hg⟩ : ∃ g, os1[i]? = some g := ⟨_, List.getElem?_eq_getElem (by rw [Hosl.out]; omega)⟩
        have hst : repO k os1 ++ os1.take (i + 1) = repO k os1 ++ os1.take i ++ [gg] := by rw [List.take_add_one, hg, List.append_assoc]; rfl
        obtain ⟨L1, hL1⟩ : ∃ y, L + i = y := ⟨_, rfl⟩
        rw [hL1] at bO hown
        have HLs := Lib.hid (show L + (i + 1) = L1 + 1 by omega)
        have Hli := Lib.hid (show (repO k os1 ++ os1.take i).length = L1 by rw [List.length_append, List.length_take, repO_len, Hosl.out, ← HL.out]; omega)
        have hLL : L1 ≤ 10000 := by have := HLn.out; omega
        have hat := HQat.out wr hQ
        obtain ⟨b, o, rfl⟩ := hat.some_of (by omega)
        obtain ⟨a1, n1, c1, a2, n2, c2', e0, e1, e2, e3, e4, e5, hLo⟩ := hat.at i gg hg
        have HbB := Lib.hid (Hbnd.out b o rfl (by omega))
        obtain ⟨hbl1, hbl2⟩ := Hfit.out gg (List.mem_of_getElem? hg)
        obtain ⟨kd, kk', ctl, qq, bb, cnd⟩ := gg
        simp only at e0 e1 e3 e4 hbl1 hbl2 hst
        have hn1' : n1 ≤ 1000 := by rw [← hLo.i1.1]; exact hbl1
        have hn2' : n2 ≤ 1000 := by rw [← hLo.i2.1]; exact hbl2
        have HCp := Lib.hid (fun wx (hx : Ext wr wx) => copyOp_N ⟨kd, kk', ctl, qq, bb, cnd⟩ a1 n1 c1 a2 n2 c2' wx (hLo.ext hx) (by omega) (by omega))
        simp only at HCp
        have v0 := bO.x2; have v2 := c2
        have HOut := Lib.hid bO; have HSrc := Lib.hid bB; have HR := Lib.hid bR; have HF := Lib.hid bF; have Hf := Lib.hid bf; have HEw := Lib.hid hX; have Hbs := Lib.hid hbs; have Hst := Lib.hid hst; have Hown := Lib.hid hown; have Hki := Lib.hid hki; have HQr := Lib.hid hQ; have HwB := HwO
        clear bB bR bF bf bO hX hown hst hLo hbl1 hbl2 hg hki hbs hL1 hat hQ c2
        go_upto_region 16 with fail
        have hE0d : Ext wr wr.drew := Below.drew (Ext.refl _)
        refine wp_region_K 11 (fun w' => w'.cell? ⟨Ob, 2, none⟩ = some (.slice av L1 cv) ∧ w'.cell? ⟨Bb, 2, none⟩ = some (.slice (some ⟨b, o, none⟩) n cB) ∧ w'.cell? ⟨b, o + i * 6, none⟩ = some (.int .i64 kd) ∧ w'.cell? ⟨b, o + i * 6 + 1, none⟩ = some (.int .i64 kk') ∧ w'.cell? ⟨b, o + i * 6 + 2, none⟩ = some (.slice a1 n1 c1) ∧ w'.cell? ⟨b, o + i * 6 + 3, none⟩ = some (.int .i64 qq) ∧ w'.cell? ⟨b, o + i * 6 + 4, none⟩ = some (.int .i64 bb) ∧ w'.cell? ⟨b, o + i * 6 + 5, none⟩ = some (.slice a2 n2 c2')) (by kernel_rfl) ?_
        show anyK _ _ _ _ _ _ 12 #[false, false, false, false, false, false, false, false, false, false, false, false] _ _
        have hHeld : wr.drew.cell? ⟨Ob, 2, none⟩ = some (.slice av L1 cv) ∧ wr.drew.cell? ⟨Bb, 2, none⟩ = some (.slice (some ⟨b, o, none⟩) n cB) ∧ wr.drew.cell? ⟨b, o + i * 6, none⟩ = some (.int .i64 kd) ∧ wr.drew.cell? ⟨b, o + i * 6 + 1, none⟩ = some (.int .i64 kk') ∧ wr.drew.cell? ⟨b, o + i * 6 + 2, none⟩ = some (.slice a1 n1 c1) ∧ wr.drew.cell? ⟨b, o + i * 6 + 3, none⟩ = some (.int .i64 qq) ∧ wr.drew.cell? ⟨b, o + i * 6 + 4, none⟩ = some (.int .i64 bb) ∧ wr.drew.cell? ⟨b, o + i * 6 + 5, none⟩ = some (.slice a2 n2 c2') := ⟨cell_ext v0 hE0d, cell_ext v2 hE0d, cell_ext e0 hE0d, cell_ext e1 hE0d, cell_ext e2 hE0d, cell_ext e3 hE0d, cell_ext e4 hE0d, cell_ext e5 hE0d⟩
        refine anyK_take (i := 0) (v := ?_) rfl (by kernel_rfl) (by kernel_rfl) (by kernel_rfl) (N := 8) (by kernel_rfl) (by kernel_rfl) (by kernel_rfl) (fun _ _ _ h => h) (Or.inl ⟨by rfl, ?_⟩) hHeld ?_
        rotate_left 1
        · intro w hSw
          go_simp
          try with_reducible rfl
        show anyK _ _ _ _ _ _ _ _ (Act.put _ (some 55) _) _
        simp only [Act.put, List.setIfInBounds_toArray, List.set_cons_zero, List.set_cons_succ]
        refine anyK_take (i := 1) (v := ?_) rfl (by kernel_rfl) (by kernel_rfl) (by kernel_rfl) (N := 8) (by kernel_rfl) (by kernel_rfl) (by kernel_rfl) (fun _ _ _ h => h) (Or.inl ⟨by rfl, ?_⟩) hHeld ?_
        rotate_left 1
        · intro w hSw
          go_simp
          try with_reducible rfl
        show anyK _ _ _ _ _ _ _ _ (Act.put _ (some 56) _) _
        simp only [Act.put, List.setIfInBounds_toArray, List.set_cons_zero, List.set_cons_succ]
        refine anyK_take (i := 2) (v := ?_) rfl (by kernel_rfl) (by kernel_rfl) (by kernel_rfl) (N := 8) (by kernel_rfl) (by kernel_rfl) (by kernel_rfl) (fun _ _ _ h => h) (Or.inl ⟨by rfl, ?_⟩) hHeld ?_
        rotate_left 1
        · intro w hSw
          go_simp
          try with_reducible rfl
        show anyK _ _ _ _ _ _ _ _ (Act.put _ (some 57) _) _
        simp only [Act.put, List.setIfInBounds_toArray, List.set_cons_zero, List.set_cons_succ]
        refine anyK_take (i := 3) (v := ?_) rfl (by kernel_rfl) (by kernel_rfl) (by kernel_rfl) (N := 8) (by kernel_rfl) (by kernel_rfl) (by kernel_rfl) (fun _ _ _ h => h) (Or.inl ⟨by rfl, ?_⟩) hHeld ?_
        rotate_left 1
        · intro w hSw
          go_simp
          try with_reducible rfl
        show anyK _ _ _ _ _ _ _ _ (Act.put _ (some 58) _) _
        simp only [Act.put, List.setIfInBounds_toArray, List.set_cons_zero, List.set_cons_succ]
        refine anyK_take (i := 4) (v := ?_) rfl (by kernel_rfl) (by kernel_rfl) (by kernel_rfl) (N := 8) (by kernel_rfl) (by kernel_rfl) (by kernel_rfl) (fun _ _ _ h => h) (Or.inl ⟨by rfl, ?_⟩) hHeld ?_
        rotate_left 1
        · intro w hSw
          go_simp
          try with_reducible rfl
        show anyK _ _ _ _ _ _ _ _ (Act.put _ (some 59) _) _
        simp only [Act.put, List.setIfInBounds_toArray, List.set_cons_zero, List.set_cons_succ]
        refine anyK_take (i := 5) (v := ?_) rfl (by kernel_rfl) (by kernel_rfl) (by kernel_rfl) (N := 8) (by kernel_rfl) (by kernel_rfl) (by kernel_rfl) (fun _ _ _ h => h) (Or.inl ⟨by rfl, ?_⟩) hHeld ?_
        rotate_left 1
        · intro w hSw
          go_simp
          try with_reducible rfl
        show anyK _ _ _ _ _ _ _ _ (Act.put _ (some 60) _) _
        simp only [Act.put, List.setIfInBounds_toArray, List.set_cons_zero, List.set_cons_succ]
        refine anyK_take (i := 6) (v := ?_) rfl (by kernel_rfl) (by kernel_rfl) (by kernel_rfl) (N := 8) (by kernel_rfl) (by kernel_rfl) (by kernel_rfl) (fun _ _ _ h => h) (Or.inl ⟨by rfl, ?_⟩) hHeld ?_
        rotate_left 1
        · intro w hSw
          go_simp
          try with_reducible rfl
        show anyK _ _ _ _ _ _ _ _ (Act.put _ (some 61) _) _
        simp only [Act.put, List.setIfInBounds_toArray, List.set_cons_zero, List.set_cons_succ]
        clear hHeld
        refine anyK_one (i := 7) (by kernel_rfl) rfl (fun Kk hKk => ?_)
        go_simp
        (go_at_call 22; refine (HCp.out _ hE0d).mono ?_; rintro e w4 ⟨⟨a3, c3, a5, c5, rfl, O4⟩, hx4⟩; have he4 : Ext wr w4 := hE0d.trans hx4)
        go_wp2_with fail
        refine hKk.out _ _ (fun _ => ⟨cell_ext v0 he4, cell_ext v2 he4, cell_ext e0 he4, cell_ext e1 he4, cell_ext e2 he4, cell_ext e3 he4, cell_ext e4 he4, cell_ext e5 he4⟩) ?_
        clear hKk Kk
        simp only [List.setIfInBounds_toArray, List.set_cons_zero, List.set_cons_succ]
        have he5 : Ext wr (w4.alloc (.cells #[.int .i64 kd, .int .i64 kk', .slice a3 n1 c3, .int .i64 qq, .int .i64 bb, .slice a5 n2 c5] 43)) := he4.trans (ext_al _ _)
        refine anyK_one (i := 8) (by kernel_rfl) rfl (fun Kk hKk => ?_)
        go_wp2_with fail
        refine hKk.out _ _ (fun _ => ⟨cell_ext v0 he5, cell_ext v2 he5, cell_ext e0 he5, cell_ext e1 he5, cell_ext e2 he5, cell_ext e3 he5, cell_ext e4 he5, cell_ext e5 he5⟩) ?_
        clear hKk Kk
        simp only [List.setIfInBounds_toArray, List.set_cons_zero, List.set_cons_succ]
        obtain ⟨xs, hx0⟩ := Hown.out
        have hli := Hli.out
        have hxx := hx0.ext he4
        have ho := hxx.own
        have ho5 := ho.alloc (.cells #[.int .i64 kd, .int .i64 kk', .slice a3 n1 c3, .int .i64 qq, .int .i64 bb, .slice a5 n2 c5] 43)
        rw [hli] at ho5
        obtain ⟨g, cap, w7, hrun, hown', hgrow', hcase, hglt⟩ := run_append_lies (P := Tryd.prog) (w4.alloc (.cells #[.int .i64 kd, .int .i64 kk', .slice a3 n1 c3, .int .i64 qq, .int .i64 bb, .slice a5 n2 c5] 43)) 22 22 base 43 i0 (.agg #[.int .i64 0, .int .i64 0, .slice none 0 0, .int .i64 0, .int .i64 0, .slice none 0 0]) 6 80 Tryd.underlying22 hi hz0 hz1 hz2 rfl (by decide) (.slice av L1 cv) L1 xs ho5 ⟨w4.heap.size, 0, none⟩ 1 1 [.int .i64 kd, .int .i64 kk', .slice a3 n1 c3, .int .i64 qq, .int .i64 bb, .slice a5 n2 c5] rfl (new_op w4 _ _ _ _ _ _ _ _ _ _ _) (one_op _ _ _ _ _ _ _ _ _ _) (by omega) (by unfold maxLen; omega) (by omega) (Nat.le_trans Hbs.out he5.size) _ rfl
        refine anyK_one (i := 9) (by kernel_rfl) rfl (fun Kk hKk => ?_)
        refine stepK_append rfl _ _ 22 rfl (.slice av L1 cv) (.slice (some ⟨w4.heap.size, 0, none⟩) 1 1) _ rfl rfl hrun ?_
        have hkind := PtKind ho5
        have hk7 := grown_ints hgrow' hkind
        have O7 := (O4.ext (ext_al _ (.cells #[.int .i64 kd, .int .i64 kk', .slice a3 n1 c3, .int .i64 qq, .int .i64 bb, .slice a5 n2 c5] 43))).keep hk7
        have own7 := OpsX.snoc (g := ⟨kd, kk', ctl, qq, bb, cnd⟩) (hxx.ext (ext_al _ _)) (by rw [hli]; exact hown') hk7 hx0.old Hbs.out O7
        have bOut7 := CiB_grownK hgrow' hkind (HOut.out.ext he5)
        have bSrc7 := CiB_grownK hgrow' hkind (HSrc.out.ext he5)
        have bHR7 := CiB_grownK hgrow' hkind (HR.out.ext he5)
        have bHF7 := FtB_grownK hgrow' hkind (HF.out.ext he5)
        have bHf7 := FtB_grownK hgrow' hkind (Hf.out.ext he5)
        have x2' := bOut7.x2; have fz2 := bOut7.f 2
        have hHeld : w7.cell? ⟨Ob, 2, none⟩ = some (.slice av L1 cv) ∧ w7.cell? ⟨Bb, 2, none⟩ = some (.slice (some ⟨b, o, none⟩) n cB) ∧ w7.cell? ⟨b, o + i * 6, none⟩ = some (.int .i64 kd) ∧ w7.cell? ⟨b, o + i * 6 + 1, none⟩ = some (.int .i64 kk') ∧ w7.cell? ⟨b, o + i * 6 + 2, none⟩ = some (.slice a1 n1 c1) ∧ w7.cell? ⟨b, o + i * 6 + 3, none⟩ = some (.int .i64 qq) ∧ w7.cell? ⟨b, o + i * 6 + 4, none⟩ = some (.int .i64 bb) ∧ w7.cell? ⟨b, o + i * 6 + 5, none⟩ = some (.slice a2 n2 c2') := ⟨x2', bSrc7.x2, cell_grown hgrow' hkind e0 he5 HbB.out, cell_grown hgrow' hkind e1 he5 HbB.out, cell_grown hgrow' hkind e2 he5 HbB.out, cell_grown hgrow' hkind e3 he5 HbB.out, cell_grown hgrow' hkind e4 he5 HbB.out, cell_grown hgrow' hkind e5 he5 HbB.out⟩
        refine hKk.out _ _ (fun _ => hHeld) ?_
        clear hKk Kk
        show anyK _ _ _ _ _ _ _ _ (Act.put _ (some 64) _) _
        simp only [Act.put, List.setIfInBounds_toArray, List.set_cons_zero, List.set_cons_succ]
        refine anyK_take (i := 10) (v := ?_) rfl (by kernel_rfl) (by kernel_rfl) (by kernel_rfl) (N := 8) (by kernel_rfl) (by kernel_rfl) (by kernel_rfl) (fun _ _ _ h => h) (Or.inl ⟨by rfl, ?_⟩) hHeld ?_
        rotate_left 1
        · intro w hSw
          go_simp
          try with_reducible rfl
        show anyK _ _ _ _ _ _ _ _ (Act.put _ (some 65) _) _
        simp only [Act.put, List.setIfInBounds_toArray, List.set_cons_zero, List.set_cons_succ]
        clear hHeld
        refine anyK_one (i := 11) (by kernel_rfl) rfl (fun Kk hKk => ?_)
        refine stepK_store rfl rfl _ _ rfl Ob 2 (some ⟨g, 0, none⟩) (L1 + 1) cap (.slice av L1 cv) rfl rfl x2' fz2 ?_
        refine hKk.out _ _ (fun h => Bool.noConfusion (show true = false from h)) ?_
        clear hKk Kk
        simp only [List.setIfInBounds_toArray, List.set_cons_zero, List.set_cons_succ]
        refine anyK_done (by kernel_rfl) ?_ _
        have hOo := only1 w7 Ob 2 (.slice (some ⟨g, 0, none⟩) (L1 + 1) cap)
        have Hown8 := Lib.hid (show OpsN _ base _ _ from ⟨_, own7.far bOut7.row (by decide) (by decide) hOo⟩)
        have HOut8 := Lib.hid (bOut7.set2 (some ⟨g, 0, none⟩) (L1 + 1) cap)
        have HSrc8 := Lib.hid (bSrc7.kept hOo (by omega))
        have HR8 := Lib.hid (bHR7.kept hOo (by omega))
        have HF8 := Lib.hid (bHF7.kept hOo (by omega))
        have Hf8 := Lib.hid (bHf7.kept hOo (by omega))
        have HE8 := Lib.hid (ext_only (grown_ext (HEw.out.trans he5) hgrow' (fun k hk => by have h1 := (hkind k hk).1; have h2 := Hbw.out; omega)) hOo HwB.out)
        have Hs8 := Lib.hid (show base ≤ (w7.setCell ⟨Ob, 2, none⟩ (.slice (some ⟨g, 0, none⟩) (L1 + 1) cap)).heap.size by rw [hOo.size]; exact Nat.le_trans (Nat.le_trans Hbs.out he5.size) hgrow'.size)
        have HKp8 := Lib.hid (Kp.step he5 hgrow' hkind hOo bOut7.row)
        clear own7 bOut7 bSrc7 bHR7 bHF7 bHf7 O7 hk7 hkind hgrow' hown' hrun ho5 ho hxx hx0 O4 hx4 he4 he5 hE0d v0 v2 e0 e1 e2 e3 e4 e5 x2' fz2 hOo hli hcase hglt
        generalize w7.setCell ⟨Ob, 2, none⟩ (.slice (some ⟨g, 0, none⟩) (L1 + 1) cap) = w8 at *
        have HQ8 := Lib.hid (HQk.out _ _ HQr.out HE8.out HKp8.out)
        go_wp2_with fail
        go_roundg (n - (i + 1))
        case measure => have := Hki.out; omega
        case rel => exact ⟨i + 1, some ⟨g, 0, none⟩, cap, by go_num, by omega, rfl, HSrc8.out, HR8.out, HF8.out, Hf8.out, by rw [HLs.out]; exact HOut8.out, by rw [Hst.out, HLs.out]; exact Hown8.out, HQ8.out, HE8.out, Hs8.out⟩

end Go.Proofs.YtapolidgocfbjaaDoor
namespace Go.Proofs.YtapolidgocfbjaaDoor
open Go.RowKit

set_option maxHeartbeats 2000000 in
set_option maxRecDepth 100000 in
theorem grow0_any (m : Nat) (w : World) (hm : m ≤ 10000) : Calls Tryd.prog 51 #[.slice none 0 0, .int .i64 (m : Int)] w fun e w' => ∃ v', e = .returned v' ∧ w'.ownsRow w.heap.size 43 6 v' 0 [] ∧ Ext w w' := by
  obtain ⟨i0, hi, hz0, hz1, hz2⟩ := info_parts op_info
  by_cases h0 : m = 0
  · subst h0
    go_enter Tryd.func51, Tryd.ntmps51
    go_wp2_with fail
    go_ret
    exact ⟨_, rfl, World.ownsRow_nil _ _ _ _, Ext.refl _⟩
  · obtain ⟨Gc, cur, hG1, hG2, hcs, hrz⟩ : ∃ (Gc : Nat) (cur : Array Value), m ≤ Gc ∧ Gc ≤ maxLen ∧ cur.size = Gc * 6 ∧ ∀ ty, (Builtin.append_ #[22, 3] ty #[.slice none 0 0, .int .i64 (m : Int)]).run Tryd.prog w = .ok (.slice (some ⟨w.heap.size, 0, none⟩) m Gc) (w.drew.alloc (.cells cur 43)) := by
      refine ⟨grownCap w m 0 43, #[] ++ Builtin.zeroCells (Value.cells (.agg #[.int .i64 0, .int .i64 0, .slice none 0 0, .int .i64 0, .int .i64 0, .slice none 0 0])) m ++ Builtin.zeroCells (Value.cells (.agg #[.int .i64 0, .int .i64 0, .slice none 0 0, .int .i64 0, .int .i64 0, .slice none 0 0])) (grownCap w m 0 43 - m), grownCap_ge w m 0 _, grownCap_le_maxLen w m 0 _ (by unfold maxLen; omega), ?_, fun ty => ?_⟩
      · have hge := grownCap_ge w m 0 43
        have h6 : (Value.cells (.agg #[.int .i64 0, .int .i64 0, .slice none 0 0, .int .i64 0, .int .i64 0, .slice none 0 0])).size = 6 := rfl
        simp only [Array.size_append, size_zeroCells, h6, List.size_toArray, List.length_nil]
        omega
      · have h := Lib.run_append_grow_zeros (P := Tryd.prog) w 22 3 ty 43 i0 (.agg #[.int .i64 0, .int .i64 0, .slice none 0 0, .int .i64 0, .int .i64 0, .slice none 0 0]) .i64 .i64 Tryd.underlying22 Tryd.underlying3 hi hz0 none 0 0 [] (run_firstCells_none w.drew i0.size 0 0 0) m (by omega) (by rw [hz1]; decide) (by omega) (by omega) (by rw [hz2]; omega) (by rw [hz2]; exact growslice_fits (need := 0 + m) (old := 0) (bytes := 80) (by omega) (by omega))
        rw [Nat.zero_add] at h
        exact h
    have hown := World.ownsRow_made (base := w.heap.size) (e := 43) (size := 6) w.drew cur Gc (Nat.le_refl _) hG2 hcs
    have hE0 : Ext w w.drew := Below.drew (Ext.refl w)
    have hE : Ext w (w.drew.alloc (.cells cur 43)) := hE0.trans (ext_al _ _)
    have Hown := Lib.hid hown; have HE := Lib.hid hE
    have p0 : ¬ (m : Int) < 0 := by omega
    have p1 : (0 : Int) < (m : Int) := by omega
    have p2 : IntKind.i64.wrap ((m : Int) - 0) = (m : Int) := by rw [IntKind.wrap_i64]; omega
    have hG3 : Gc ≤ 9223372036854775807 := by unfold maxLen at hG2; omega
    clear hi hz0 hz1 hz2 hown hE hE0 hG2 hcs h0
    go_enter Tryd.func51, Tryd.ntmps51
    go_wp2_with (at_builtin; refine Lib.wpList_append_run _ rfl _ _ _ _ rfl _ _ rfl rfl _ _ (hrz _) ?_)
    all_goals (go_ret; exact ⟨_, rfl, Hown.out, HE.out⟩)

/-- The cells of operations, those of none too. -/
theorem srcCells {w : World} {ao : Option Addr} {n : Nat} {ops : List Gop} (h : OpsAt w ao n ops) : ∃ ys : List Value, ys.length = n * 6 ∧ (∀ ad, ao = some ad → ∀ j u, ys[j]? = some u → w.cell? (ad.add j) = some u) ∧ (∀ u ∈ ys, u.oneCell' = true) ∧
    ∀ t g, ops[t]? = some g → ∃ (a1 : Option Addr) (n1 c1 : Nat) (a2 : Option Addr) (n2 c2 : Nat), ys[t * 6]? = some (.int .i64 g.kind) ∧ ys[t * 6 + 1]? = some (.int .i64 g.k) ∧ ys[t * 6 + 2]? = some (.slice a1 n1 c1) ∧ ys[t * 6 + 3]? = some (.int .i64 g.q) ∧ ys[t * 6 + 4]? = some (.int .i64 g.bit) ∧ ys[t * 6 + 5]? = some (.slice a2 n2 c2) ∧ OpL w g a1 n1 c1 a2 n2 c2 := by
  by_cases h0 : n = 0
  · refine ⟨[], by rw [h0]; rfl, fun ad _ j u hu => by simp at hu, fun u hu => by simp at hu, fun t g hg => ?_⟩
    have h1 := (List.getElem?_eq_some_iff.1 hg).1
    have h2 := h.1
    omega
  · obtain ⟨b, o, rfl⟩ := h.some_of (by omega)
    obtain ⟨ys, h1, h2, h3, h4⟩ := opsAt_cells h
    exact ⟨ys, h1, fun ad e => by cases e; exact h2, h3, h4⟩

/-- What stands ahead of number i of two. -/
def pre2 {α : Type} (x y z : α) (i : Nat) : α := if i = 0 then x else if i = 1 then y else z

set_option maxHeartbeats 8000000 in
set_option maxRecDepth 100000 in
theorem concat_any (s : Nat) (ao : Option Addr) (n cp : Nat) (bo : Option Addr) (m cq : Nat) (opsA opsB : List Gop) (w : World) (hA : OpsAt w ao n opsA) (hB : OpsAt w bo m opsB) (hna : ao = none → cp = 0) (hnb : bo = none → cq = 0) (hn : n ≤ 4096) (hm : m ≤ 4096)
    (c0 : w.cell? ⟨s, 0, none⟩ = some (.slice ao n cp)) (c1 : w.cell? ⟨s, 1, none⟩ = some (.slice bo m cq)) :
    Calls Tryd.prog 40 #[.slice (some ⟨s, 0, none⟩) 2 2] w fun e w' => ∃ v', e = .returned v' ∧ OpsL w w' w.heap.size v' (opsA ++ opsB) ∧ Ext w w' := by
  obtain ⟨i0, hi, hz0, hz1, hz2⟩ := info_parts op_info
  have hlA := hA.1; have hlB := hB.1
  obtain ⟨ya, ya1, ya2, ya3, ya4⟩ := srcCells hA
  obtain ⟨yb, yb1, yb2, yb3, yb4⟩ := srcCells hB
  have hnoA : ao = none → n = 0 := fun e => by
    rcases hA.2 with h | ⟨_, _, h, _⟩
    · exact h
    · rw [e] at h; cases h
  have hnoB : bo = none → m = 0 := fun e => by
    rcases hB.2 with h | ⟨_, _, h, _⟩
    · exact h
    · rw [e] at h; cases h
  have HA1 := Lib.hid ya1; have HA2 := Lib.hid ya2; have HA3 := Lib.hid ya3; have HA4 := Lib.hid ya4; have HB1 := Lib.hid yb1; have HB2 := Lib.hid yb2; have HB3 := Lib.hid yb3; have HB4 := Lib.hid yb4
  have HlA := Lib.hid hlA; have HlB := Lib.hid hlB; have HnA := Lib.hid hna; have HnB := Lib.hid hnb; have HnoA := Lib.hid hnoA; have HnoB := Lib.hid hnoB
  have slt : s < w.heap.size := World.block_lt_of_cell? w _ c0
  have Hslt := Lib.hid slt
  have HGr := Lib.hid (fun k wx (hk : k ≤ 10000) => grow0_any k wx hk)
  obtain ⟨nm, hnm⟩ : ∃ y, n + m = y := ⟨_, rfl⟩
  have hnm4 : nm ≤ 8192 := by omega
  have w1 : IntKind.i64.wrap (0 + (n : Int)) = (n : Int) := by rw [IntKind.wrap_i64]; omega
  have w2 : IntKind.i64.wrap ((n : Int) + (m : Int)) = (nm : Int) := by rw [IntKind.wrap_i64]; omega
  have p1 : ¬ (n : Int) < 0 := by omega
  have p2 : ¬ (nm : Int) < 0 := by omega
  have C0 := Lib.hid c0; have C1 := Lib.hid c1
  clear hA hB ya1 ya2 ya3 ya4 yb1 yb2 yb3 yb4 hlA hlB hna hnb hnoA hnoB slt
  go_enter Tryd.func40, Tryd.ntmps40
  go_wp2_with fail
  go_loopg [3, 5, 11] 2 (fun kk s3 s5 s11 wx => ∃ i : Nat, s11 = .int .i64 (i : Int) ∧ i ≤ 2 ∧ 2 - i = kk ∧ s3 = .int .i64 (pre2 (0 : Int) (n : Int) (nm : Int) i) ∧ wx = w)
  case atStart => exact ⟨0, rfl, by omega, by omega, rfl, rfl⟩
  case round =>
    obtain ⟨i, rfl, hi2, hk, rfl, rfl⟩ := hrel
    by_cases h2 : i = 2
    · subst h2
      have e2 : pre2 (0 : Int) (n : Int) (nm : Int) 2 = (nm : Int) := rfl
      rw [e2]
      obtain ⟨W9, rfl⟩ : ∃ W9 : World, W9 = wr := ⟨_, rfl⟩
      go_wp2_with fail
      refine (HGr.out nm W9 (by omega)).mono ?_
      rintro e u1 ⟨v0, rfl, hO, hE⟩
      have HO := Lib.hid hO; have HE := Lib.hid hE
      clear hO hE
      go_wp2_with fail
      go_loopg [6, 8, 27] 2 (fun kk s6 s8 s27 wx => ∃ j : Nat, s27 = .int .i64 (j : Int) ∧ j ≤ 2 ∧ 2 - j = kk ∧ Ext W9 wx ∧ ∃ (v6 : Value) (xs : List Value), v6 = s6 ∧ wx.ownsRow W9.heap.size 43 6 v6 (pre2 0 n nm j) xs ∧ xs = pre2 [] ya (ya ++ yb) j)
      case atStart => exact ⟨0, rfl, by omega, by omega, HE.out, _, [], rfl, HO.out, rfl⟩
      case round =>
        obtain ⟨j, rfl, hj2, hkj, hX, v6, xs, rfl, hown, hxs⟩ := hrel
        subst hxs
        by_cases h3 : j = 2
        · subst h3
          have HL := Lib.hid (show OpsL W9 wr W9.heap.size v6 (opsA ++ opsB) from OpsL.app (xs := ya) (ys := yb) (by rw [HA1.out, HlA.out]) (by rw [HlA.out, HlB.out, hnm]; exact hown) HA4.out HB4.out)
          have HX := Lib.hid hX
          clear hown hX
          go_wp2_with fail
          go_ret
          exact ⟨_, rfl, HL.out, HX.out⟩
        rcases (show j = 0 ∨ j = 1 by omega) with h4 | h4
        · subst h4
          have hc := cell_ext C0.out hX
          have Hown := Lib.hid (show wr.ownsRow W9.heap.size 43 6 v6 0 [] from hown); have HX := Lib.hid hX
          clear hown hX
          obtain ⟨aa, haa⟩ : ∃ y, ao = y := ⟨_, rfl⟩
          rw [haa] at hc HA2 HnA HnoA
          clear haa
          cases aa with
          | none =>
            have h0 := HnoA.out rfl; have h1 := HnA.out rfl
            subst h0; subst h1
            have hy : ya = [] := List.length_eq_zero_iff.1 (by rw [HA1.out, Nat.zero_mul])
            have Hy := Lib.hid hy
            clear hy
            go_wp2_with (at_builtin; refine wpList_append_own_none rfl _ _ 22 rfl W9.heap.size 43 i0 6 Tryd.underlying22 hi _ _ _ rfl Hown.out rfl ?_)
            go_roundg (2 - 1)
            case measure => omega
            case rel => exact ⟨1, by go_num, by omega, rfl, HX.out, _, ya, rfl, by rw [Hy.out]; exact Hown.out, rfl⟩
          | some ad =>
            have Hcl := Lib.hid (show ∀ j u, ya[j]? = some u → wr.cell? (ad.add j) = some u from fun j u hu => by
              have h5 := HA2.out ad rfl j u hu
              exact (HX.out.cell (World.block_lt_of_cell? _ _ h5)).trans h5)
            go_wp2_with (at_builtin; refine wpList_append_own _ rfl _ _ 22 rfl W9.heap.size 43 i0 (.agg #[.int .i64 0, .int .i64 0, .slice none 0 0, .int .i64 0, .int .i64 0, .slice none 0 0]) 6 80 Tryd.underlying22 hi hz0 hz1 hz2 rfl (by decide) _ _ _ rfl Hown.out ad n cp ya rfl HA1.out Hcl.out HA3.out (by unfold maxLen; omega) (by omega) HX.out.size ?_; intro v' w7 hown' hgrow' _)
            have HX7 := Lib.hid (grown_ext HX.out hgrow' (fun q hq => (own_lt Hown.out q hq).1))
            have Hown7 := Lib.hid hown'
            clear hown' hgrow'
            go_roundg (2 - 1)
            case measure => omega
            case rel => exact ⟨1, by go_num, by omega, rfl, HX7.out, _, ya, rfl, by have := Hown7.out; rw [Nat.zero_add, List.nil_append] at this; exact this, rfl⟩
        · subst h4
          have hc := cell_ext C1.out hX
          have Hown := Lib.hid (show wr.ownsRow W9.heap.size 43 6 v6 n ya from hown); have HX := Lib.hid hX
          clear hown hX
          obtain ⟨aa, haa⟩ : ∃ y, bo = y := ⟨_, rfl⟩
          rw [haa] at hc HB2 HnB HnoB
          clear haa
          cases aa with
          | none =>
            have h0 := HnoB.out rfl; have h1 := HnB.out rfl
            subst h0; subst h1
            have hy : yb = [] := List.length_eq_zero_iff.1 (by rw [HB1.out, Nat.zero_mul])
            have Hy := Lib.hid hy
            clear hy
            go_wp2_with (at_builtin; refine wpList_append_own_none rfl _ _ 22 rfl W9.heap.size 43 i0 6 Tryd.underlying22 hi _ _ _ rfl Hown.out rfl ?_)
            go_roundg (2 - 2)
            case measure => omega
            case rel => exact ⟨2, by go_num, by omega, rfl, HX.out, _, (ya ++ yb), rfl, by rw [Hy.out, List.append_nil]; have := Hown.out; rw [show n = nm by omega] at this; exact this, rfl⟩
          | some ad =>
            have Hcl := Lib.hid (show ∀ j u, yb[j]? = some u → wr.cell? (ad.add j) = some u from fun j u hu => by
              have h5 := HB2.out ad rfl j u hu
              exact (HX.out.cell (World.block_lt_of_cell? _ _ h5)).trans h5)
            go_wp2_with (at_builtin; refine wpList_append_own _ rfl _ _ 22 rfl W9.heap.size 43 i0 (.agg #[.int .i64 0, .int .i64 0, .slice none 0 0, .int .i64 0, .int .i64 0, .slice none 0 0]) 6 80 Tryd.underlying22 hi hz0 hz1 hz2 rfl (by decide) _ _ _ rfl Hown.out ad m cq yb rfl HB1.out Hcl.out HB3.out (by unfold maxLen; omega) (by omega) HX.out.size ?_; intro v' w7 hown' hgrow' _)
            have HX7 := Lib.hid (grown_ext HX.out hgrow' (fun q hq => (own_lt Hown.out q hq).1))
            have Hown7 := Lib.hid hown'
            clear hown' hgrow'
            go_roundg (2 - 2)
            case measure => omega
            case rel => exact ⟨2, by go_num, by omega, rfl, HX7.out, _, (ya ++ yb), rfl, by have := Hown7.out; rw [hnm] at this; exact this, rfl⟩
    rcases (show i = 0 ∨ i = 1 by omega) with h4 | h4
    · subst h4
      have e0 : pre2 (0 : Int) (n : Int) (nm : Int) 0 = 0 := rfl
      rw [e0]
      have hc := C0.out
      go_wp2_with fail
      go_roundg (2 - 1)
      case measure => omega
      case rel => exact ⟨1, by go_num, by omega, rfl, rfl, rfl⟩
    · subst h4
      have e0 : pre2 (0 : Int) (n : Int) (nm : Int) 1 = (n : Int) := rfl
      rw [e0]
      have hc := C1.out
      go_wp2_with fail
      go_roundg (2 - 2)
      case measure => omega
      case rel => exact ⟨2, by go_num, by omega, rfl, rfl, rfl⟩

end Go.Proofs.YtapolidgocfbjaaDoor
namespace Go.Proofs.YtapolidgocfbjaaDoor
open Go.RowKit

set_option maxHeartbeats 8000000 in
set_option maxRecDepth 100000 in
theorem with_N (qb bi : Int) (ao0 : Option Addr) (n0 cp0 : Nat) (ao : Option Addr) (n cp : Nat) (ops : List Gop) (w : World) (h : OpsAt w ao n ops) (hn : n ≤ 10000) (hb : ∀ g ∈ ops, g.ctl.length ≤ 1000 ∧ g.cnd.length ≤ 1000) :
    Calls Tryd.prog 24 #[.agg #[.int .i64 qb, .int .i64 bi, .slice ao0 n0 cp0], .slice ao n cp] w fun e w' => (∃ (a' : Option Addr) (c' : Nat), e = .returned (.agg #[.int .i64 qb, .int .i64 bi, .slice a' n c']) ∧ OpsN w' (w.heap.size + 3) (.slice a' n c') ops) ∧ Ext w w' := by
  obtain ⟨i0, hi, hz0, hz1, hz2⟩ := info_parts op_info
  have Hl := Lib.hid h.1
  obtain ⟨H, hH⟩ : ∃ H, w.heap.size = H := ⟨_, rfl⟩
  obtain ⟨A1, hA1⟩ : ∃ A1, w.alloc (.cells #[.int .i64 qb, .int .i64 bi, .slice ao0 n0 cp0] 24) = A1 := ⟨_, rfl⟩
  obtain ⟨A2, hA2⟩ : ∃ A2, A1.alloc (.cells #[.int .i64 0, .int .i64 0, .slice none 0 0] 24) = A2 := ⟨_, rfl⟩
  obtain ⟨A3, hA3⟩ : ∃ A3, A2.alloc (.cells #[.int .i64 qb, .int .i64 bi, .slice none 0 0] 24) = A3 := ⟨_, rfl⟩
  have hA2' : (w.alloc (.cells #[.int .i64 qb, .int .i64 bi, .slice ao0 n0 cp0] 24)).alloc (.cells #[.int .i64 0, .int .i64 0, .slice none 0 0] 24) = A2 := by rw [hA1, hA2]
  have s1 : A1.heap.size = H + 1 := by rw [← hA1, ← hH]; simp
  have s2 : A2.heap.size = H + 2 := by rw [← hA2]; simp; omega
  have s3 : A3.heap.size = H + 3 := by rw [← hA3]; simp; omega
  have x1 : Ext w A1 := by rw [← hA1]; exact ext_al _ _
  have x2 : Ext A1 A2 := by rw [← hA2]; exact ext_al _ _
  have x3 : Ext A2 A3 := by rw [← hA3]; exact ext_al _ _
  have bC : CiB A2 H qb bi ao0 n0 cp0 := by
    have : CiB A1 H qb bi ao0 n0 cp0 := by rw [← hA1, ← hH]; exact ⟨heap_alloc_new w _⟩
    exact this.ext x2
  have bR : CiB A3 (H + 1) 0 0 none 0 0 := by
    have : CiB A2 (H + 1) 0 0 none 0 0 := by rw [← hA2, ← s1]; exact ⟨heap_alloc_new A1 _⟩
    exact this.ext x3
  have bO : CiB A3 (H + 2) qb bi none 0 0 := by rw [← hA3, ← s2]; exact ⟨heap_alloc_new A2 _⟩
  have HhH := Lib.hid hH
  have m0 := bC.x0; have m1 := bC.x1
  have HA := Lib.hid hA2'; have HA3 := Lib.hid hA3; have HE3 := Lib.hid ((x1.trans x2).trans x3); have HbR := Lib.hid bR; have HbO := Lib.hid bO; have Hops := Lib.hid h; have Hb := Lib.hid hb
  have Hs3 := Lib.hid s3; have Hs2 := Lib.hid s2
  rw [← hH] at m0 m1
  rw [← hA2'] at m0 m1
  clear h hb hA1 hA2 hA3 hA2' s1 s2 s3 x1 x2 x3 bC bR bO
  go_enter Tryd.func24, Tryd.ntmps24
  go_wp2_with fail
  rw [HA.out, HA3.out]
  go_loopg [7, 15] n (fun kk s7 s15 wx => ∃ (i : Nat) (av : Option Addr) (cv : Nat), s15 = .int .i64 (i : Int) ∧ i ≤ n ∧ n - i = kk ∧ CiB wx (H + 1) 0 0 none 0 0 ∧ CiB wx (H + 2) qb bi av i cv ∧ OpsN wx (H + 3) (.slice av i cv) (ops.take i) ∧ Ext w wx ∧ H + 3 ≤ wx.heap.size)
  case atStart => exact ⟨0, none, 0, rfl, by omega, by omega, HbR.out, HbO.out, OpsN.nil _ _, HE3.out, by rw [Hs3.out]; exact Nat.le_refl _⟩
  case round =>
    clear HbR HbO HE3 m0 m1
    obtain ⟨i, av, cv, rfl, hin', hk, bR, bO, hown, hX, hbs⟩ := hrel
    by_cases hin : i = n
    · have q1 : ¬ (i : Int) < (n : Int) := by omega
      have q1' : decide ((i : Int) < (n : Int)) = false := df q1
      have htk : ops.take i = ops := List.take_of_length_le (by rw [Hl.out]; omega)
      rw [htk] at hown
      have y0 := bO.x0; have y1 := bO.x1; have y2 := bO.x2
      have r0 := bR.x0; have r1 := bR.x1; have r2 := bR.x2; have g0 := bR.f 0; have g1 := bR.f 1; have g2 := bR.f 2
      have hO3 : Only (H + 1) wr (((wr.setCell ⟨H + 1, 0, none⟩ (.int .i64 qb)).setCell ⟨H + 1, 1, none⟩ (.int .i64 bi)).setCell ⟨H + 1, 2, none⟩ (.slice av i cv)) := (((Only.refl _ _).setCell _ _).setCell _ _).setCell _ _
      have hoF := hown.only bR.row (by decide) hO3 (by omega)
      have zC : CiB (((wr.setCell ⟨H + 1, 0, none⟩ (.int .i64 qb)).setCell ⟨H + 1, 1, none⟩ (.int .i64 bi)).setCell ⟨H + 1, 2, none⟩ (.slice av i cv)) (H + 1) qb bi av i cv := ((bR.set0 qb).set1 bi).set2 av i cv
      have HE := Lib.hid (cput (o := 2) (cput (o := 1) (cput (o := 0) hX (show w.heap.size ≤ H + 1 by omega) (.int .i64 qb)) (show w.heap.size ≤ H + 1 by omega) (.int .i64 bi)) (show w.heap.size ≤ H + 1 by omega) (.slice av i cv))
      have HoF := Lib.hid hoF; have Hin := Lib.hid hin; have HzC := Lib.hid zC
      clear hown hO3 hoF bR bO hX hin htk zC hk hin'
      go_wp2_with fail
      generalize ((wr.setCell ⟨H + 1, 0, none⟩ (.int .i64 qb)).setCell ⟨H + 1, 1, none⟩ (.int .i64 bi)).setCell ⟨H + 1, 2, none⟩ (.slice av i cv) = Wz at *
      have z0 := HzC.out.x0; have z1 := HzC.out.x1; have z2 := HzC.out.x2
      exact bodyPost_ret (v := .agg #[.int .i64 qb, .int .i64 bi, .slice av i cv]) (by simp [results, Tryd.results24, go_sem, z0, z1, z2]) rfl ⟨⟨av, cv, by rw [Hin.out], Eq.mp (congrArg (fun v => OpsN _ (H + 3) v ops) (show Value.slice av i cv = Value.slice av n cv by rw [Hin.out])) HoF.out⟩, HE.out⟩
    · have q1 : (i : Int) < (n : Int) := by omega
      have q1' : decide ((i : Int) < (n : Int)) = true := dt q1
      have q0 : (0 : Int) ≤ (i : Int) := by omega
      obtain ⟨gg, hg⟩ : ∃ g, ops[i]? = some g := ⟨_, List.getElem?_eq_getElem (by rw [Hl.out]; omega)⟩
      have hst : ops.take (i + 1) = ops.take i ++ [gg] := by rw [List.take_add_one, hg]; rfl
      obtain ⟨bo, oo, rfl⟩ := (Hops.out.ext hX).some_of (by omega)
      obtain ⟨a1, n1, c1, a2, n2, c2, t0, t1, t2, t3, t4, t5, hLo⟩ := (Hops.out.ext hX).at i gg hg
      obtain ⟨hbl1, hbl2⟩ := Hb.out gg (List.mem_of_getElem? hg)
      obtain ⟨kd, kk', ctl, qq, bb, cnd⟩ := gg
      simp only at t0 t1 t3 t4 hbl1 hbl2
      have hn1 : n1 ≤ 1000 := by rw [← hLo.i1.1]; exact hbl1
      have hn2 : n2 ≤ 1000 := by rw [← hLo.i2.1]; exact hbl2
      have hown' := hown
      obtain ⟨xs0, ho0x⟩ := hown
      have ho0 := ho0x.own
      have hnb : ∀ k, (Value.slice av i cv).ownBlock = some k → k < wr.heap.size := fun k hk' => (own_lt ho0 k hk').2
      obtain ⟨U, hU⟩ : ∃ U, wr.alloc (.cells #[.int .i64 kd, .int .i64 kk', .slice a1 n1 c1, .int .i64 qq, .int .i64 bb, .slice a2 n2 c2] 43) = U := ⟨_, rfl⟩
      obtain ⟨Bx, hBx⟩ : ∃ x, wr.heap.size = x := ⟨_, rfl⟩
      have hEU : Ext wr U := by rw [← hU]; exact ext_al _ _
      have bx : OpBx U Bx kd kk' a1 n1 c1 qq bb a2 n2 c2 := by rw [← hU, ← hBx]; exact opbx_new wr kd kk' a1 n1 c1 qq bb a2 n2 c2
      rw [hBx] at hnb
      have HOu := Lib.hid (hown'.ext hEU); have HbR := Lib.hid (bR.ext hEU); have HbO := Lib.hid (bO.ext hEU); have HEU := Lib.hid (hX.trans hEU); have Hbx := Lib.hid bx; have Hnb := Lib.hid hnb
      have HCp := Lib.hid (fun wx (hx : Ext U wx) => ccopyOp_N ⟨kd, kk', ctl, qq, bb, cnd⟩ a1 n1 c1 a2 n2 c2 wx ((hLo.ext hEU).ext hx) (by omega) (by omega))
      simp only at HCp
      have Hst := Lib.hid hst; have HU := Lib.hid hU
      have hbs' : H + 3 ≤ U.heap.size := Nat.le_trans hbs hEU.size
      clear hown' ho0 ho0x bR bO hX hEU bx hnb hLo hst hU hg hbl1 hbl2 hbs
      have hbs := hbs'
      clear hbs'
      go_upto_region 5 with fail
      rw [HU.out]
      clear t0 t1 t2 t3 t4 t5
      have v2 := HbO.out.x2
      have e0 := Hbx.out.x0; have e1 := Hbx.out.x1; have e2 := Hbx.out.x2; have e3 := Hbx.out.x3; have e4 := Hbx.out.x4; have e5 := Hbx.out.x5
      have hE0d : Ext U U.drew := Below.drew (Ext.refl _)
      refine wp_region_K 7 (fun w' => w'.cell? ⟨H + 2, 2, none⟩ = some (.slice av i cv) ∧ w'.cell? ⟨Bx, 0, none⟩ = some (.int .i64 kd) ∧ w'.cell? ⟨Bx, 1, none⟩ = some (.int .i64 kk') ∧ w'.cell? ⟨Bx, 2, none⟩ = some (.slice a1 n1 c1) ∧ w'.cell? ⟨Bx, 3, none⟩ = some (.int .i64 qq) ∧ w'.cell? ⟨Bx, 4, none⟩ = some (.int .i64 bb) ∧ w'.cell? ⟨Bx, 5, none⟩ = some (.slice a2 n2 c2)) (by kernel_rfl) ?_
      show anyK _ _ _ _ _ _ 8 #[false, false, false, false, false, false, false, false] _ _
      have hHeld : U.drew.cell? ⟨H + 2, 2, none⟩ = some (.slice av i cv) ∧ U.drew.cell? ⟨Bx, 0, none⟩ = some (.int .i64 kd) ∧ U.drew.cell? ⟨Bx, 1, none⟩ = some (.int .i64 kk') ∧ U.drew.cell? ⟨Bx, 2, none⟩ = some (.slice a1 n1 c1) ∧ U.drew.cell? ⟨Bx, 3, none⟩ = some (.int .i64 qq) ∧ U.drew.cell? ⟨Bx, 4, none⟩ = some (.int .i64 bb) ∧ U.drew.cell? ⟨Bx, 5, none⟩ = some (.slice a2 n2 c2) := ⟨v2, e0, e1, e2, e3, e4, e5⟩
      refine anyK_take (i := 0) (v := ?_) rfl (by kernel_rfl) (by kernel_rfl) (by kernel_rfl) (N := 8) (by kernel_rfl) (by kernel_rfl) (by kernel_rfl) (fun _ _ _ h => h) (Or.inl ⟨by rfl, ?_⟩) hHeld ?_
      rotate_left 1
      · intro w hSw
        go_simp
        try with_reducible rfl
      show anyK _ _ _ _ _ _ _ _ (Act.put _ (some 19) _) _
      simp only [Act.put, List.setIfInBounds_toArray, List.set_cons_zero, List.set_cons_succ]
      refine anyK_take (i := 1) (v := ?_) rfl (by kernel_rfl) (by kernel_rfl) (by kernel_rfl) (N := 8) (by kernel_rfl) (by kernel_rfl) (by kernel_rfl) (fun _ _ _ h => h) (Or.inl ⟨by rfl, ?_⟩) hHeld ?_
      rotate_left 1
      · intro w hSw
        go_simp
        try with_reducible rfl
      show anyK _ _ _ _ _ _ _ _ (Act.put _ (some 20) _) _
      simp only [Act.put, List.setIfInBounds_toArray, List.set_cons_zero, List.set_cons_succ]
      refine anyK_take (i := 2) (v := ?_) rfl (by kernel_rfl) (by kernel_rfl) (by kernel_rfl) (N := 8) (by kernel_rfl) (by kernel_rfl) (by kernel_rfl) (fun _ _ _ h => h) (Or.inl ⟨by rfl, ?_⟩) hHeld ?_
      rotate_left 1
      · intro w hSw
        go_simp
        try with_reducible rfl
      show anyK _ _ _ _ _ _ _ _ (Act.put _ (some 21) _) _
      simp only [Act.put, List.setIfInBounds_toArray, List.set_cons_zero, List.set_cons_succ]
      clear hHeld
      refine anyK_one (i := 3) (by kernel_rfl) rfl (fun Kk hKk => ?_)
      go_simp
      (go_at_call 43; refine (HCp.out _ hE0d).mono ?_; rintro e w4 ⟨⟨a3, c3, a5, c5, rfl, O4⟩, hx4⟩; have he4 : Ext U w4 := hE0d.trans hx4)
      go_wp2_with fail
      refine hKk.out _ _ (fun _ => ⟨cell_ext v2 he4, cell_ext e0 he4, cell_ext e1 he4, cell_ext e2 he4, cell_ext e3 he4, cell_ext e4 he4, cell_ext e5 he4⟩) ?_
      clear hKk Kk
      simp only [List.setIfInBounds_toArray, List.set_cons_zero, List.set_cons_succ]
      have he5 : Ext U (w4.alloc (.cells #[.int .i64 kd, .int .i64 kk', .slice a3 n1 c3, .int .i64 qq, .int .i64 bb, .slice a5 n2 c5] 43)) := he4.trans (ext_al _ _)
      refine anyK_one (i := 4) (by kernel_rfl) rfl (fun Kk hKk => ?_)
      go_wp2_with fail
      refine hKk.out _ _ (fun _ => ⟨cell_ext v2 he5, cell_ext e0 he5, cell_ext e1 he5, cell_ext e2 he5, cell_ext e3 he5, cell_ext e4 he5, cell_ext e5 he5⟩) ?_
      clear hKk Kk
      simp only [List.setIfInBounds_toArray, List.set_cons_zero, List.set_cons_succ]
      obtain ⟨xs, hx0⟩ := HOu.out
      have hxx := hx0.ext he4
      have ho := hxx.own
      have ho5 := ho.alloc (.cells #[.int .i64 kd, .int .i64 kk', .slice a3 n1 c3, .int .i64 qq, .int .i64 bb, .slice a5 n2 c5] 43)
      have hli : (ops.take i).length = i := by rw [List.length_take, Hl.out]; omega
      obtain ⟨g, cap, w7, hrun, hown', hgrow', hcase, hglt⟩ := run_append_lies (P := Tryd.prog) (w4.alloc (.cells #[.int .i64 kd, .int .i64 kk', .slice a3 n1 c3, .int .i64 qq, .int .i64 bb, .slice a5 n2 c5] 43)) 22 22 (H + 3) 43 i0 (.agg #[.int .i64 0, .int .i64 0, .slice none 0 0, .int .i64 0, .int .i64 0, .slice none 0 0]) 6 80 Tryd.underlying22 hi hz0 hz1 hz2 rfl (by decide) (.slice av i cv) (ops.take i).length xs ho5 ⟨w4.heap.size, 0, none⟩ 1 1 [.int .i64 kd, .int .i64 kk', .slice a3 n1 c3, .int .i64 qq, .int .i64 bb, .slice a5 n2 c5] rfl (new_op w4 _ _ _ _ _ _ _ _ _ _ _) (one_op _ _ _ _ _ _ _ _ _ _) (by omega) (by rw [hli]; unfold maxLen; omega) (by rw [hli]; omega) (Nat.le_trans hbs he5.size) _ rfl
      rw [hli] at hrun
      refine anyK_one (i := 5) (by kernel_rfl) rfl (fun Kk hKk => ?_)
      refine stepK_append rfl _ _ 22 rfl (.slice av i cv) (.slice (some ⟨w4.heap.size, 0, none⟩) 1 1) _ rfl rfl hrun ?_
      have hkind := PtKind ho5
      have hk7 : ∀ (b' : Nat) (cur : Array Value) (fr : Nat × Nat), (w4.alloc (.cells #[.int .i64 kd, .int .i64 kk', .slice a3 n1 c3, .int .i64 qq, .int .i64 bb, .slice a5 n2 c5] 43)).heap[b']? = some (.cells cur 3 fr) → w7.heap[b']? = (w4.alloc (.cells #[.int .i64 kd, .int .i64 kk', .slice a3 n1 c3, .int .i64 qq, .int .i64 bb, .slice a5 n2 c5] 43)).heap[b']? := fun b' cur fr hb' => by
        refine hgrow'.block b' (Array.getElem?_eq_some_iff.1 hb').1 (fun e => ?_)
        obtain ⟨_, cs, fr', e2⟩ := hkind b' e.symm
        rw [e2] at hb'
        cases hb'
      have O7 := (O4.ext (ext_al _ (.cells #[.int .i64 kd, .int .i64 kk', .slice a3 n1 c3, .int .i64 qq, .int .i64 bb, .slice a5 n2 c5] 43))).keep hk7
      have own7 := OpsX.snoc (g := ⟨kd, kk', ctl, qq, bb, cnd⟩) (hxx.ext (ext_al _ _)) hown' hk7 hx0.old (show H + 3 ≤ U.heap.size from hbs) O7
      have bOut7 : CiB w7 (H + 2) qb bi av i cv := CiB_grown hgrow' hkind (HbO.out.ext he5) (by omega)
      have bRes7 : CiB w7 (H + 1) 0 0 none 0 0 := CiB_grown hgrow' hkind (HbR.out.ext he5) (by omega)
      have bBox7 : OpBx w7 Bx kd kk' a1 n1 c1 qq bb a2 n2 c2 := ⟨(hgrow'.block _ (Hbx.out.ext he5).lt (fun e => by have := Hnb.out _ e.symm; omega)).trans (Hbx.out.ext he5).row⟩
      have x2' := bOut7.x2; have fz2 := bOut7.f 2
      have hHeld : w7.cell? ⟨H + 2, 2, none⟩ = some (.slice av i cv) ∧ w7.cell? ⟨Bx, 0, none⟩ = some (.int .i64 kd) ∧ w7.cell? ⟨Bx, 1, none⟩ = some (.int .i64 kk') ∧ w7.cell? ⟨Bx, 2, none⟩ = some (.slice a1 n1 c1) ∧ w7.cell? ⟨Bx, 3, none⟩ = some (.int .i64 qq) ∧ w7.cell? ⟨Bx, 4, none⟩ = some (.int .i64 bb) ∧ w7.cell? ⟨Bx, 5, none⟩ = some (.slice a2 n2 c2) := ⟨x2', bBox7.x0, bBox7.x1, bBox7.x2, bBox7.x3, bBox7.x4, bBox7.x5⟩
      refine hKk.out _ _ (fun _ => hHeld) ?_
      clear hKk Kk
      show anyK _ _ _ _ _ _ _ _ (Act.put _ (some 24) _) _
      simp only [Act.put, List.setIfInBounds_toArray, List.set_cons_zero, List.set_cons_succ]
      refine anyK_take (i := 6) (v := ?_) rfl (by kernel_rfl) (by kernel_rfl) (by kernel_rfl) (N := 8) (by kernel_rfl) (by kernel_rfl) (by kernel_rfl) (fun _ _ _ h => h) (Or.inl ⟨by rfl, ?_⟩) hHeld ?_
      rotate_left 1
      · intro w hSw
        go_simp
        try with_reducible rfl
      show anyK _ _ _ _ _ _ _ _ (Act.put _ (some 25) _) _
      simp only [Act.put, List.setIfInBounds_toArray, List.set_cons_zero, List.set_cons_succ]
      clear hHeld
      refine anyK_one (i := 7) (by kernel_rfl) rfl (fun Kk hKk => ?_)
      refine stepK_store rfl rfl _ _ rfl (H + 2) 2 (some ⟨g, 0, none⟩) (i + 1) cap (.slice av i cv) rfl rfl x2' fz2 ?_
      refine hKk.out _ _ (fun h => Bool.noConfusion (show true = false from h)) ?_
      clear hKk Kk
      simp only [List.setIfInBounds_toArray, List.set_cons_zero, List.set_cons_succ]
      refine anyK_done (by kernel_rfl) ?_ _
      have hOo := only1 w7 (H + 2) 2 (.slice (some ⟨g, 0, none⟩) (i + 1) cap)
      have Hown8 := Lib.hid (show OpsN _ (H + 3) _ _ from ⟨_, own7.only bOut7.row (by decide) hOo (by omega)⟩)
      rw [hli] at Hown8
      clear hli
      have HbO8 := Lib.hid (bOut7.set2 (some ⟨g, 0, none⟩) (i + 1) cap)
      have HbR8 := Lib.hid (show CiB (w7.setCell ⟨H + 2, 2, none⟩ (.slice (some ⟨g, 0, none⟩) (i + 1) cap)) (H + 1) 0 0 none 0 0 from ⟨(hOo.block _ (by omega)).trans bRes7.row⟩)
      have HE8 := Lib.hid (cput (o := 2) (grown_ext (HEU.out.trans he5) hgrow' (fun k hk => by have := (hkind k hk).1; have := HhH.out; omega)) (show w.heap.size ≤ H + 2 by have := HhH.out; omega) (.slice (some ⟨g, 0, none⟩) (i + 1) cap))
      have Hs8 := Lib.hid (show H + 3 ≤ (w7.setCell ⟨H + 2, 2, none⟩ (.slice (some ⟨g, 0, none⟩) (i + 1) cap)).heap.size by simp; exact Nat.le_trans (Nat.le_trans hbs he5.size) hgrow'.size)
      clear own7 bOut7 bRes7 bBox7 O7 hk7 hkind hgrow' hown' hrun ho5 ho hxx hx0 O4 hx4 he4 he5 hE0d v2 e0 e1 e2 e3 e4 e5 x2' fz2 hOo
      generalize w7.setCell ⟨H + 2, 2, none⟩ (.slice (some ⟨g, 0, none⟩) (i + 1) cap) = w8 at *
      go_wp2_with fail
      go_roundg (n - (i + 1))
      case measure => omega
      case rel => exact ⟨i + 1, some ⟨g, 0, none⟩, cap, by go_num, by omega, rfl, HbR8.out, HbO8.out, by rw [Hst.out]; exact Hown8.out, HE8.out, Hs8.out⟩

end Go.Proofs.YtapolidgocfbjaaDoor
