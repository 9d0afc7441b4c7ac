/-
  The program's Inverse: what it answers lies in memory of its own. Circuits without measurements in plain numbers: what undoes a gate behind it does nothing; a gate with a control where it is 0, where it is 1. Nothing of the program stands here. Basic gates in plain lists: what an operation becomes, as the program makes it; each of them is one, is without a fault, and they are not too many. Nothing of the program stands here. Basic gates in plain lists: of an operation without a fault. Nothing of the program stands here.
-/
import Derived.Test.YthgmlhddanbbpaaDoorProg
import Derived.Test.YthgmlhddanbbpaaDoorRows
import Derived.BigQuiet
import Derived.Deep.AppendLies
import Derived.Deep.Cut
import Derived.Deep.CutRange
import Derived.Deep.LoopGhost
import Derived.Deep.MidRow
import Derived.Deep.QuietTactic
import Derived.Deep.RegionHeld3
import Derived.Defers
import Derived.Ground.Names2Prog
import Derived.Laws.AppendOwnNone
import Derived.Laws.Bits64b
import Derived.Laws.Concat
import Derived.Laws.CopyOwn
import Derived.Laws.IdiomCopy
import Derived.Laws.IdiomStrings
import Derived.Laws.ResultCell
import Derived.Laws.Rows
import Derived.Lib.AppendStr
import Derived.Lib.AppendZeros
import Derived.Lib.AppendZerosOnto
import Derived.Lib.BitFns
import Derived.Lib.Hide
import Derived.Lib.ItoaMem
import Derived.Lib.ItoaNum
import Derived.Lib.Strings
import Derived.Lib.TrailingZeros
import Derived.Maps.AppendAt
import Derived.OrdersHeld
import Derived.OwnWalk
import Derived.ProofKit
import Derived.Recover
import Derived.RegionTactic
import Derived.Shelf.Slices.Clone
import Derived.Shelf.Slices.Turned
import Derived.Shelf.Spec.TrailingZeros
import Derived.WalkKit
import Derived.WalkLawsBesides
import Derived.WalkSpells
import Derived.Test.YthgmlhddanbbpaaDoorS00Mem
import Derived.Test.YthgmlhddanbbpaaDoorShelf
import Derived.Test.YthgmlhddanbbpaaDoorS02ZCq
import Derived.Test.YthgmlhddanbbpaaDoorS03Uaq
import Derived.Test.YthgmlhddanbbpaaDoorS04ZXq
import Derived.Test.YthgmlhddanbbpaaDoorS05Xbq
import Derived.Test.YthgmlhddanbbpaaDoorS06Xlq
import Derived.Test.YthgmlhddanbbpaaDoorS07Cn
import Derived.Test.YthgmlhddanbbpaaDoorS08Di
import Derived.Test.YthgmlhddanbbpaaDoorS09Ka
import Derived.Test.YthgmlhddanbbpaaDoorS10Kl
namespace Go.Proofs.YthgmlhddanbbpaaDoor
open Go.RowKit

/-- An operation of a row is undone. -/
theorem rowF_undo {w w' : World} {base : Nat} {cs : Array Value} {ops : List Gop} {n i : Nat} {gi : Gop} (hl : ops.length = n) (hi : i < n) (hsz : n * 6 ≤ cs.size) (h : RowF w base (fun p => cs[p]?) (invF ops i)) (hgi : ops[i]? = some gi)
    (hk : ∀ g a1 n1 c1 a2 n2 c2, OpN w base g a1 n1 c1 a2 n2 c2 → OpN w' base g a1 n1 c1 a2 n2 c2) : RowF w' base (fun p => (cs.setIfInBounds (i * 6 + 1) (.int .i64 (opp gi.k)))[p]?) (invF ops (i + 1)) := by
  intro t g hg
  have ht : t < n := by have := (List.getElem?_eq_some_iff.1 hg).1; rw [invF_len, hl] at this; exact this
  rw [invF_get (by omega)] at hg
  by_cases e1 : t = i
  · subst e1
    rw [if_pos (by omega), hgi] at hg
    injection hg with hg
    subst hg
    obtain ⟨x1, x2, x3, x4, x5, x6, y0, y1, y2, y3, y4, y5, y6⟩ := h t gi (by rw [invF_get (by omega), if_neg (by omega)]; exact hgi)
    have ho := hk _ _ _ _ _ _ _ y6
    refine ⟨x1, x2, x3, x4, x5, x6, ?_, ?_, ?_, ?_, ?_, ?_, ⟨ho.i1, ho.i2, ho.ne⟩⟩
    · show (cs.setIfInBounds _ _)[_]? = _; rw [Array.getElem?_setIfInBounds, if_neg (by omega)]; exact y0
    · show (cs.setIfInBounds _ _)[_]? = _; rw [Array.getElem?_setIfInBounds, if_pos rfl, if_pos (by omega)]; rfl
    · show (cs.setIfInBounds _ _)[_]? = _; rw [Array.getElem?_setIfInBounds, if_neg (by omega)]; exact y2
    · show (cs.setIfInBounds _ _)[_]? = _; rw [Array.getElem?_setIfInBounds, if_neg (by omega)]; exact y3
    · show (cs.setIfInBounds _ _)[_]? = _; rw [Array.getElem?_setIfInBounds, if_neg (by omega)]; exact y4
    · show (cs.setIfInBounds _ _)[_]? = _; rw [Array.getElem?_setIfInBounds, if_neg (by omega)]; exact y5
  · have hg' : (invF ops i)[t]? = some g := by
      rw [invF_get (by omega)]
      by_cases e3 : t < i
      · rw [if_pos e3]; rw [if_pos (by omega)] at hg; exact hg
      · rw [if_neg e3]; rw [if_neg (by omega)] at hg; exact hg
    obtain ⟨x1, x2, x3, x4, x5, x6, y0, y1, y2, y3, y4, y5, y6⟩ := h t g hg'
    refine ⟨x1, x2, x3, x4, x5, x6, ?_, ?_, ?_, ?_, ?_, ?_, hk _ _ _ _ _ _ _ y6⟩
    · show (cs.setIfInBounds _ _)[_]? = _; rw [Array.getElem?_setIfInBounds, if_neg (by omega)]; exact y0
    · show (cs.setIfInBounds _ _)[_]? = _; rw [Array.getElem?_setIfInBounds, if_neg (by omega)]; exact y1
    · show (cs.setIfInBounds _ _)[_]? = _; rw [Array.getElem?_setIfInBounds, if_neg (by omega)]; exact y2
    · show (cs.setIfInBounds _ _)[_]? = _; rw [Array.getElem?_setIfInBounds, if_neg (by omega)]; exact y3
    · show (cs.setIfInBounds _ _)[_]? = _; rw [Array.getElem?_setIfInBounds, if_neg (by omega)]; exact y4
    · show (cs.setIfInBounds _ _)[_]? = _; rw [Array.getElem?_setIfInBounds, if_neg (by omega)]; exact y5

theorem sepF_int {cs : Array Value} {m p : Nat} {z : Int} (h : SepF m (fun q => cs[q]?)) : SepF m (fun q => (cs.setIfInBounds p (.int .i64 z))[q]?) := by
  have key : ∀ (q : Nat) (u : Value) (k : Nat), (cs.setIfInBounds p (.int .i64 z))[q]? = some u → u.ownBlock = some k → cs[q]? = some u := by
    intro q u k hu hk
    rw [Array.getElem?_setIfInBounds] at hu
    split at hu
    · split at hu
      · cases hu; simp [Value.ownBlock] at hk
      · cases hu
    · exact hu
  intro i j k u v hi hj eu ev ku kv
  exact h i j k u v hi hj (key i u k eu ku) (key j v k ev kv) ku kv

set_option maxHeartbeats 8000000 in
set_option maxRecDepth 100000 in
theorem Inverse_N (c : Gci) (ao : Option Addr) (n cp : Nat) (w : World) (h : OpsAt w ao n c.ops) (hn : n ≤ cp) (hcp : cp ≤ 9223372036854775807) (hS : Shp w) (hp : (pur c).1 = 0) :
    Calls Tryd.prog 66 #[.agg #[.int .i64 c.qubits, .int .i64 c.bits, .slice ao n cp]] w fun e w' => (∃ (a' : Option Addr) (c' : Nat), e = .returned (.tuple #[.agg #[.int .i64 c.qubits, .int .i64 c.bits, .slice a' n c'], .agg #[.int .i64 0, .int .i64 0]]) ∧ OpsN w' (w.heap.size + 3) (.slice a' n c') (invO c.ops)) ∧ Ext w w' := by
  obtain ⟨hck, hpz⟩ := pur_zero hp
  obtain ⟨hz, hq1, hq2, hb1, hb2, hl4, hop⟩ := chk_zero hck
  have hfit : ∀ g ∈ c.ops, (g.ctl.length ≤ 1000 ∧ g.cnd.length ≤ 1000) ∧ 0 ≤ g.k ∧ g.k ≤ 15 := fun g hg => by
    have f := prFit_of_code hq2 hb1 hb2 (hop g hg)
    exact ⟨⟨Nat.le_trans f.few (by decide), Nat.le_trans f.cfew (by decide)⟩, opk_range (hop g hg)⟩
  have hl : c.ops.length = n := h.1
  rw [hl] at hl4
  obtain ⟨qb, bi, ops⟩ := c
  simp only at hfit hl h ⊢
  obtain ⟨H, hH⟩ : ∃ H, w.heap.size = H := ⟨_, rfl⟩
  obtain ⟨A1, hA1⟩ : ∃ A1, w.alloc (.cells #[.int .i64 qb, .int .i64 bi, .slice ao n cp] 24) = A1 := ⟨_, rfl⟩
  obtain ⟨A2, hA2⟩ : ∃ A2, A1.alloc (.cells #[.int .i64 0, .int .i64 0, .slice none 0 0] 24) = A2 := ⟨_, rfl⟩
  obtain ⟨A3, hA3⟩ : ∃ A3, A2.alloc (.cells #[.int .i64 0, .int .i64 0] 27) = A3 := ⟨_, rfl⟩
  have s1 : A1.heap.size = H + 1 := by rw [← hA1, ← hH]; simp
  have s2 : A2.heap.size = H + 2 := by rw [← hA2]; simp; omega
  have s3 : A3.heap.size = H + 3 := by rw [← hA3]; simp; omega
  have x1 : Ext w A1 := by rw [← hA1]; exact ext_al _ _
  have x2 : Ext A1 A2 := by rw [← hA2]; exact ext_al _ _
  have x3 : Ext A2 A3 := by rw [← hA3]; exact ext_al _ _
  have bC : CiB A3 H qb bi ao n cp := by
    have : CiB A1 H qb bi ao n cp := by rw [← hA1, ← hH]; exact ⟨heap_alloc_new w _⟩
    exact (this.ext x2).ext x3
  have bR : CiB A3 (H + 1) 0 0 none 0 0 := by
    have : CiB A2 (H + 1) 0 0 none 0 0 := by rw [← hA2, ← s1]; exact ⟨heap_alloc_new A1 _⟩
    exact this.ext x3
  have bF : FtB A3 (H + 2) 0 0 := by rw [← hA3, ← s2]; exact ⟨heap_alloc_new A2 _⟩
  have E0 : Ext w A3 := (x1.trans x2).trans x3
  have hA : ((w.alloc (.cells #[.int .i64 qb, .int .i64 bi, .slice ao n cp] 24)).alloc (.cells #[.int .i64 0, .int .i64 0, .slice none 0 0] 24)).alloc (.cells #[.int .i64 0, .int .i64 0] 27) = A3 := by rw [hA1, hA2, hA3]
  have HK := Lib.hid (Pure_any ⟨qb, bi, ops⟩ ao n cp A3 (h.ext E0) hn hcp (hS.ext E0))
  rw [hpz] at HK
  simp only at HK
  have m0 := bC.x0; have m1 := bC.x1; have m2 := bC.x2
  rw [← hA] at m0 m1 m2
  have HA := Lib.hid hA; have HE0 := Lib.hid E0; have HC := Lib.hid bC; have HR := Lib.hid bR; have HFt := Lib.hid bF
  have Hops := Lib.hid (h.ext E0); have Hfit := Lib.hid hfit; have Hl := Lib.hid hl; have Hs3 := Lib.hid s3; have HhH := Lib.hid hH
  clear h hS hpz E0 bC bR bF x1 x2 x3 s1 s2 s3 hA1 hA2 hA3 hA hfit hl hck hz hq1 hq2 hb1 hb2 hop hp
  go_enter Tryd.func66, Tryd.ntmps66
  go_wp2_with fail
  rw [HA.out]
  refine HK.out.mono ?_
  rintro e w1 ⟨rfl, hx1⟩
  have Ef := ext_al w1 (.cells #[.int .i64 0, .int .i64 0] 27)
  have bf1 : FtB (w1.alloc (.cells #[.int .i64 0, .int .i64 0] 27)) w1.heap.size 0 0 := ⟨heap_alloc_new w1 _⟩
  have q0 := bf1.x0; have q1 := bf1.x1
  have hX := hx1.trans Ef
  have bC1 := HC.out.ext hX
  have y0 := bC1.x0; have y1 := bC1.x1; have y2 := bC1.x2
  have HR1 := Lib.hid (HR.out.ext hX); have HF1 := Lib.hid (HFt.out.ext hX); have HE1 := Lib.hid (HE0.out.trans hX); have Hops1 := Lib.hid (Hops.out.ext hX)
  have Hsz1 := Lib.hid (show H + 3 ≤ (w1.alloc (.cells #[.int .i64 0, .int .i64 0] 27)).heap.size by rw [← Hs3.out]; exact hX.size)
  clear hx1 Ef bf1 hX bC1 HK HC HR HFt HE0 Hops m0 m1 m2
  go_wp2_with fail
  generalize w1.alloc (.cells #[.int .i64 0, .int .i64 0] 27) = W1 at *
  refine (with_N qb bi ao n cp ao n cp ops W1 Hops1.out (by omega) (fun g hg => (Hfit.out g hg).1)).mono ?_
  rintro e w2 ⟨⟨av, cv, rfl, hO2⟩, hx2⟩
  obtain ⟨Ob, hOb⟩ : ∃ x, w2.heap.size = x := ⟨_, rfl⟩
  have Eo := ext_al w2 (.cells #[.int .i64 qb, .int .i64 bi, .slice av n cv] 24)
  have bO : CiB (w2.alloc (.cells #[.int .i64 qb, .int .i64 bi, .slice av n cv] 24)) Ob qb bi av n cv := by rw [← hOb]; exact ⟨heap_alloc_new w2 _⟩
  have z2 := bO.x2
  have hlt2 : ∀ k, (Value.slice av n cv).ownBlock = some k → H + 3 ≤ k ∧ k < Ob := by
    obtain ⟨xs, hox⟩ := hO2
    have ho := hox.own
    intro k hk
    have h1 := own_lt ho k hk
    have h2 := Hsz1.out
    omega
  have HOo := Lib.hid (hO2.ext Eo); have HbO := Lib.hid bO; have HR2 := Lib.hid (HR1.out.ext (hx2.trans Eo)); have HF2 := Lib.hid (HF1.out.ext (hx2.trans Eo)); have HE2 := Lib.hid (HE1.out.trans (hx2.trans Eo)); have Hlt2 := Lib.hid hlt2
  have Hb3 := Lib.hid (show H + 3 ≤ W1.heap.size + 3 by have := Hsz1.out; omega)
  clear hO2 hx2 Eo bO hlt2 HR1 HF1 HE1 Hops1 y0 y1 y2 q0 q1
  go_wp2_with fail
  generalize w2.alloc (.cells #[.int .i64 qb, .int .i64 bi, .slice av n cv] 24) = W2 at *
  refine (reverse_N (W1.heap.size + 3) av n cv ops W2 HOo.out (by omega)).mono ?_
  rintro e w3 ⟨rfl, hO3, hrv⟩
  have bO3 := HbO.out.rvs hrv (fun e => by have := (Hlt2.out _ e).2; omega)
  have y2 := bO3.x2
  have HR3 := Lib.hid (HR2.out.rvs hrv (fun e => by have := (Hlt2.out _ e).1; omega)); have HF3 := Lib.hid (HF2.out.rvs hrv (fun e => by have := (Hlt2.out _ e).1; omega)); have HE3 := Lib.hid (hrv.ext HE2.out (fun i e => by have := (Hlt2.out _ e).1; have := HhH.out; omega))
  have HbO3 := Lib.hid bO3; have HO3 := Lib.hid hO3
  clear hrv bO3 hO3 HOo HbO HR2 HF2 HE2 z2
  go_wp2_with fail
  obtain ⟨rops, hrops⟩ : ∃ x, ops.reverse = x := ⟨_, rfl⟩
  have Hrl := Lib.hid (show rops.length = n by rw [← hrops, List.length_reverse]; exact Hl.out)
  have Hrf := Lib.hid (show ∀ g ∈ rops, 0 ≤ g.k ∧ g.k ≤ 15 from fun g hg => (Hfit.out g (by rw [← hrops] at hg; exact List.mem_reverse.1 hg)).2)
  have Hinv := Lib.hid (show invO ops = rops.map undoO by unfold invO; rw [hrops])
  rw [hrops] at HO3
  clear hrops Hfit
  obtain ⟨base, hbase⟩ : ∃ x, W1.heap.size + 3 = x := ⟨_, rfl⟩
  rw [hbase] at HO3 Hb3
  clear hbase
  go_loopg [6, 7, 25] n (fun kk s6 s7 s25 wx => ∃ (i : Nat), s25 = .int .i64 (i : Int) ∧ i ≤ n ∧ n - i = kk ∧ CiB wx (H + 1) 0 0 none 0 0 ∧ FtB wx (H + 2) 0 0 ∧ CiB wx Ob qb bi av n cv ∧ OpsN wx base (.slice av n cv) (invF rops i) ∧ Ext w wx ∧ H + 3 ≤ wx.heap.size ∧ Ob < wx.heap.size)
  case atStart => exact ⟨0, rfl, by omega, by omega, HR3.out, HF3.out, HbO3.out, by rw [invF_zero]; exact HO3.out, HE3.out, by have := HF3.out.lt; omega, HbO3.out.lt⟩
  case round =>
    clear HR3 HF3 HbO3 HO3 HE3 y2
    obtain ⟨i, rfl, hin', hk, bR, bF, bO, hO, hX, hs3, hsO⟩ := hrel
    by_cases hin : i = n
    · have q1 : ¬ (i : Int) < (n : Int) := by omega
      have q1' : decide ((i : Int) < (n : Int)) = false := df q1
      rw [invF_all (by rw [Hrl.out]; omega), ← Hinv.out] at hO
      have y0 := bO.x0; have y1 := bO.x1; have y2 := bO.x2
      have r0 := bR.x0; have r1 := bR.x1; have r2 := bR.x2; have g0 := bR.f 0; have g1 := bR.f 1; have g2 := bR.f 2
      have f0 := bF.x0; have f1 := bF.x1; have k0 := bF.f 0; have k1 := bF.f 1
      have zC := putCF_C bR (show H + 1 ≠ H + 1 + 1 by omega) qb bi av n cv 0 0
      have zF := putCF_F bF (show H + 1 ≠ H + 2 by omega) qb bi av n cv 0 0
      have zO := putCF_opsN hO bR bF (show H + 1 ≠ H + 2 by omega) qb bi av n cv 0 0
      have zE : Ext w (putCF wr (H + 1) (H + 2) qb bi av n cv 0 0) := putCF_ext hX (show w.heap.size ≤ H + 1 by omega) (show w.heap.size ≤ H + 2 by omega) _ _ _ _ _ _ _
      obtain ⟨Wz, hWz⟩ : ∃ Wz, putCF wr (H + 1) (H + 2) qb bi av n cv 0 0 = Wz := ⟨_, rfl⟩
      rw [show H + 1 + 1 = H + 2 from rfl] at zC
      rw [hWz] at zC zF zO zE
      unfold putCF at hWz
      have HWz := Lib.hid hWz; have HzE := Lib.hid zE; have HzO := Lib.hid zO
      have v0 := zC.x0; have v1 := zC.x1; have v2 := zC.x2; have v3 := zF.x0; have v4 := zF.x1
      clear zC zF zO zE hWz bR bF bO hO hX hin hin' hk hs3 hsO
      go_wp2_with fail
      rw [HWz.out]
      have HH := HhH.out
      exact bodyPost_ret (v := .tuple #[.agg #[.int .i64 qb, .int .i64 bi, .slice av n cv], .agg #[.int .i64 0, .int .i64 0]]) (by simp [results, Tryd.results66, go_sem, v0, v1, v2, v3, v4]) rfl ⟨⟨av, cv, rfl, HzO.out.down (by have := Hb3.out; omega)⟩, HzE.out⟩
    · have q1 : (i : Int) < (n : Int) := by omega
      have q1' : decide ((i : Int) < (n : Int)) = true := dt q1
      have p0 : (0 : Int) ≤ (i : Int) := by omega
      obtain ⟨gg, hg⟩ : ∃ g, rops[i]? = some g := ⟨_, List.getElem?_eq_getElem (by rw [Hrl.out]; omega)⟩
      have hkr := Hrf.out gg (List.mem_of_getElem? hg)
      obtain ⟨hl2, g, cur, eav, hbg, hrw, hnc, hcm, hsz, hsep, hrow⟩ := opsN_open hO (by omega)
      subst eav
      obtain ⟨a1, n1, c1, a2, n2, c2, x0, x1, x2, x3, x4, x5, x6⟩ := hrow i gg (by rw [invF_get (by rw [Hrl.out]; omega), if_neg (by omega)]; exact hg)
      have ce : ∀ (k : Nat) (v : Value), cur[k]? = some v → wr.cell? ⟨g, k, none⟩ = some v := fun k v e => by rw [cell_of_row wr g k cur _ (0, 0) hrw]; exact e
      have t0 := ce _ _ x0; have t1 := ce _ _ x1; have t2 := ce _ _ x2; have t3 := ce _ _ x3; have t4 := ce _ _ x4; have t5 := ce _ _ x5
      have gOb : g < Ob := by have := (Hlt2.out g rfl).2; exact this
      have gH : H + 3 ≤ g := (Hlt2.out g rfl).1
      obtain ⟨U, hU⟩ : ∃ U, wr.alloc (.cells #[.int .i64 gg.kind, .int .i64 gg.k, .slice a1 n1 c1, .int .i64 gg.q, .int .i64 gg.bit, .slice a2 n2 c2] 51) = U := ⟨_, rfl⟩
      obtain ⟨Bx, hBx⟩ : ∃ x, wr.heap.size = x := ⟨_, rfl⟩
      have hEU : Ext wr U := by rw [← hU]; exact ext_al _ _
      have bx : OpBx U Bx gg.kind gg.k a1 n1 c1 gg.q gg.bit a2 n2 c2 := by rw [← hU, ← hBx]; exact opbx_new wr _ _ a1 n1 c1 _ _ a2 n2 c2
      have hrwU : U.heap[g]? = some (.cells cur 51 (0, 0)) := (hEU.block g (by have := (Array.getElem?_eq_some_iff.1 hrw).1; exact this)).trans hrw
      have hrowU : RowF U base (fun p => cur[p]?) (invF rops i) := fun t gx hgx => by
        obtain ⟨z1, z2, z3, z4, z5, z6, w0, w1, w2, w3, w4, w5, w6⟩ := hrow t gx hgx
        exact ⟨z1, z2, z3, z4, z5, z6, w0, w1, w2, w3, w4, w5, w6.ext hEU⟩
      have HOp := Lib.hid (fun wx => opposite_any gg.k wx hkr.1 (by omega))
      obtain ⟨ok, hok⟩ : ∃ x, opp gg.k = x := ⟨_, rfl⟩
      rw [hok] at HOp
      have hOs := only1 U.drew g (i * 6 + 1) (.int .i64 ok)
      have hki := only_ints (w := U.drew) (w' := U.drew.setCell ⟨g, i * 6 + 1, none⟩ (.int .i64 ok)) hrwU (by decide) hOs
      have hrz := rowF_undo (w' := U.drew.setCell ⟨g, i * 6 + 1, none⟩ (.int .i64 ok)) Hrl.out (by omega) (by rw [hsz]; omega) hrowU hg (fun _ _ _ _ _ _ _ ho => (ho.ext (cdrew (Ext.refl U))).keep hki)
      rw [hok] at hrz
      have hwz : (U.drew.setCell ⟨g, i * 6 + 1, none⟩ (.int .i64 ok)).heap[g]? = some (.cells (cur.setIfInBounds (i * 6 + 1) (.int .i64 ok)) 51 (0, 0)) := row_put (W := U.drew) hrwU rfl
      have HOz := Lib.hid (opsN_close (base := base) (n := n) (c := cv) (by rw [invF_len]; exact Hrl.out) hbg hwz hnc hcm (by simp [hsz]) (sepF_int hsep) hrz)
      have HRz := Lib.hid (show CiB (U.drew.setCell ⟨g, i * 6 + 1, none⟩ (.int .i64 ok)) (H + 1) 0 0 none 0 0 from ⟨(hOs.block _ (by omega)).trans (bR.ext hEU).drew.row⟩)
      have HFz := Lib.hid (show FtB (U.drew.setCell ⟨g, i * 6 + 1, none⟩ (.int .i64 ok)) (H + 2) 0 0 from ⟨(hOs.block _ (by omega)).trans (bF.ext hEU).drew.row⟩)
      have HBz := Lib.hid (show CiB (U.drew.setCell ⟨g, i * 6 + 1, none⟩ (.int .i64 ok)) Ob qb bi (some ⟨g, 0, none⟩) n cv from ⟨(hOs.block _ (by omega)).trans (bO.ext hEU).drew.row⟩)
      have HXz := Lib.hid (cput (o := i * 6 + 1) (cdrew (hX.trans hEU)) (show w.heap.size ≤ g by omega) (.int .i64 ok))
      have Hsz := Lib.hid (show H + 3 ≤ (U.drew.setCell ⟨g, i * 6 + 1, none⟩ (.int .i64 ok)).heap.size by simp; exact Nat.le_trans hs3 hEU.size)
      have Hso := Lib.hid (show Ob < (U.drew.setCell ⟨g, i * 6 + 1, none⟩ (.int .i64 ok)).heap.size by simp; exact Nat.lt_of_lt_of_le hsO hEU.size)
      have v2 := (bO.ext hEU).x2; have e1 := bx.x1
      have rc1 : U.drew.cell? ⟨g, i * 6 + 1, none⟩ = some (.int .i64 gg.k) := by
        have : U.cell? ⟨g, i * 6 + 1, none⟩ = some (.int .i64 gg.k) := cell_ext t1 hEU
        exact this
      have rf1 : U.drew.frozen? ⟨g, i * 6 + 1, none⟩ = false := frozen_of_row U.drew g _ _ _ hrwU
      have HU := Lib.hid hU
      obtain ⟨kd, kk', ctl, qq, bb, cnd⟩ := gg
      simp only at t0 t1 t3 t4 HOp e1 rc1 HU
      have nOx : Ob ≠ Bx := by omega
      clear hsep hrz hwz hki hOs hrowU hrwU hEU hU bx ce hrow hrw x0 x1 x2 x3 x4 x5 x6 hkr hg hok bR bF bO hO hX hl2 hnc hcm hsz hbg
      go_upto_region 9 with fail
      rw [HU.out]
      clear t0 t1 t2 t3 t4 t5
      refine wp_region_K 8 (fun w' => w'.cell? ⟨Ob, 2, none⟩ = some (.slice (some ⟨g, 0, none⟩) n cv) ∧ w'.cell? ⟨Bx, 1, none⟩ = some (.int .i64 kk')) (by kernel_rfl) ?_
      show anyK _ _ _ _ _ _ 9 #[false, false, false, false, false, false, false, false, false] _ _
      have hHeld : U.drew.cell? ⟨Ob, 2, none⟩ = some (.slice (some ⟨g, 0, none⟩) n cv) ∧ U.drew.cell? ⟨Bx, 1, none⟩ = some (.int .i64 kk') := ⟨v2, e1⟩
      refine anyK_take (i := 0) (v := ?_) rfl (by kernel_rfl) (by kernel_rfl) (by kernel_rfl) (N := 9) (by kernel_rfl) (by kernel_rfl) (by kernel_rfl) (fun _ _ _ h => h) (Or.inl ⟨by rfl, ?_⟩) hHeld ?_
      rotate_left 1
      · intro w hSw
        go_simp
        try with_reducible rfl
      show anyK _ _ _ _ _ _ _ _ (Act.put _ (some 30) _) _
      simp only [Act.put, List.setIfInBounds_toArray, List.set_cons_zero, List.set_cons_succ]
      refine anyK_take (i := 1) (v := ?_) rfl (by kernel_rfl) (by kernel_rfl) (by kernel_rfl) (N := 9) (by kernel_rfl) (by kernel_rfl) (by kernel_rfl) (fun _ _ _ h => h) (Or.inl ⟨by rfl, ?_⟩) hHeld ?_
      rotate_left 1
      · intro w hSw
        go_simp
        try with_reducible rfl
      show anyK _ _ _ _ _ _ _ _ (Act.put _ (some 31) _) _
      simp only [Act.put, List.setIfInBounds_toArray, List.set_cons_zero, List.set_cons_succ]
      refine anyK_take (i := 2) (v := ?_) rfl (by kernel_rfl) (by kernel_rfl) (by kernel_rfl) (N := 9) (by kernel_rfl) (by kernel_rfl) (by kernel_rfl) (fun _ _ _ h => h) (Or.inl ⟨by rfl, ?_⟩) hHeld ?_
      rotate_left 1
      · intro w hSw
        go_simp
        try with_reducible rfl
      show anyK _ _ _ _ _ _ _ _ (Act.put _ (some 32) _) _
      simp only [Act.put, List.setIfInBounds_toArray, List.set_cons_zero, List.set_cons_succ]
      refine anyK_take (i := 3) (v := ?_) rfl (by kernel_rfl) (by kernel_rfl) (by kernel_rfl) (N := 9) (by kernel_rfl) (by kernel_rfl) (by kernel_rfl) (fun _ _ _ h => h) (Or.inl ⟨by rfl, ?_⟩) hHeld ?_
      rotate_left 1
      · intro w hSw
        go_simp
        try with_reducible rfl
      show anyK _ _ _ _ _ _ _ _ (Act.put _ (some 33) _) _
      simp only [Act.put, List.setIfInBounds_toArray, List.set_cons_zero, List.set_cons_succ]
      refine anyK_take (i := 4) (v := ?_) rfl (by kernel_rfl) (by kernel_rfl) (by kernel_rfl) (N := 9) (by kernel_rfl) (by kernel_rfl) (by kernel_rfl) (fun _ _ _ h => h) (Or.inl ⟨by rfl, ?_⟩) hHeld ?_
      rotate_left 1
      · intro w hSw
        go_simp
        try with_reducible rfl
      show anyK _ _ _ _ _ _ _ _ (Act.put _ (some 34) _) _
      simp only [Act.put, List.setIfInBounds_toArray, List.set_cons_zero, List.set_cons_succ]
      clear hHeld
      refine anyK_one (i := 5) (by kernel_rfl) rfl (fun Kk hKk => ?_)
      go_simp
      (go_at_call 80; refine (HOp.out _).mono ?_; rintro e w4 ⟨rfl, rfl⟩)
      go_wp2_with fail
      refine hKk.out _ _ (fun _ => ⟨v2, e1⟩) ?_
      clear hKk Kk
      simp only [List.setIfInBounds_toArray, List.set_cons_zero, List.set_cons_succ]
      have hHeld : U.drew.cell? ⟨Ob, 2, none⟩ = some (.slice (some ⟨g, 0, none⟩) n cv) ∧ U.drew.cell? ⟨Bx, 1, none⟩ = some (.int .i64 kk') := ⟨v2, e1⟩
      refine anyK_take (i := 6) (v := ?_) rfl (by kernel_rfl) (by kernel_rfl) (by kernel_rfl) (N := 9) (by kernel_rfl) (by kernel_rfl) (by kernel_rfl) (fun _ _ _ h => h) (Or.inl ⟨by rfl, ?_⟩) hHeld ?_
      rotate_left 1
      · intro w hSw
        go_simp
        try with_reducible rfl
      show anyK _ _ _ _ _ _ _ _ (Act.put _ (some 36) _) _
      simp only [Act.put, List.setIfInBounds_toArray, List.set_cons_zero, List.set_cons_succ]
      refine anyK_take (i := 7) (v := ?_) rfl (by kernel_rfl) (by kernel_rfl) (by kernel_rfl) (N := 9) (by kernel_rfl) (by kernel_rfl) (by kernel_rfl) (fun _ _ _ h => h) (Or.inl ⟨by rfl, ?_⟩) hHeld ?_
      rotate_left 1
      · intro w hSw
        go_simp
        try with_reducible rfl
      show anyK _ _ _ _ _ _ _ _ (Act.put _ (some 37) _) _
      simp only [Act.put, List.setIfInBounds_toArray, List.set_cons_zero, List.set_cons_succ]
      clear hHeld
      refine anyK_one (i := 8) (by kernel_rfl) rfl (fun Kk hKk => ?_)
      refine stepK_storeN rfl rfl _ _ rfl g (i * 6 + 1) ok (.int .i64 kk') rfl rfl rc1 rf1 ?_
      refine hKk.out _ _ (fun h => Bool.noConfusion (show true = false from h)) ?_
      clear hKk Kk
      simp only [List.setIfInBounds_toArray, List.set_cons_zero, List.set_cons_succ]
      refine anyK_done (by kernel_rfl) ?_ _
      generalize U.drew.setCell ⟨g, i * 6 + 1, none⟩ (.int .i64 ok) = w8 at *
      go_wp2_with fail
      go_roundg (n - (i + 1))
      case measure => omega
      case rel => exact ⟨i + 1, by go_num, by omega, rfl, HRz.out, HFz.out, HBz.out, HOz.out, HXz.out, Hsz.out, Hso.out⟩

end Go.Proofs.YthgmlhddanbbpaaDoor
namespace Go.Proofs.YthgmlhddanbbpaaDoor

/-- Gates, one behind the other. -/
noncomputable def rnG (ops : List Gop) (s : Nat → Nm) : Nat → Nm := ops.foldl (fun s o => gt o s) s
theorem rnG_app (a b : List Gop) (s : Nat → Nm) : rnG (a ++ b) s = rnG b (rnG a s) := List.foldl_append
/-- A number as a state has it. -/
def Kpt (x : Nm) : Prop := Low x ∧ Anti x.a
theorem Kpt.zero : Kpt nZ := ⟨low_nZ, anti_nZ⟩
theorem Kpt.tr {x : Nm} (h : Kpt x) (m : Int) : Kpt (nTr m x) := ⟨h.1.tr m, h.2.tr m⟩
theorem Kpt.neg {x : Nm} (h : Kpt x) : Kpt (nNeg x) := ⟨h.1.neg, h.2.neg'⟩
theorem Kpt.hf {x y : Nm} (hx : Kpt x) (hy : Kpt y) : Kpt (lw (nHf (nAdd x y))) := ⟨lw_low _, lw_anti (anti_hf (anti_add hx.2 hy.2))⟩
theorem gt_kp {o : Gop} {s : Nat → Nm} (h : ∀ x, Kpt (s x)) (x : Nat) : Kpt (gt o s x) := by
  unfold gt
  split
  · split
    · exact (h x).tr _
    · split
      · split
        · exact (h x).tr _
        · exact h x
      · split
        · exact h _
        · refine (h _).hf ?_
          split
          · exact (h x).neg
          · exact h x
  · exact h x
theorem rnG_kp : ∀ (ops : List Gop) (s : Nat → Nm), (∀ x, Kpt (s x)) → ∀ x, Kpt (rnG ops s x)
  | [], _, h => h
  | o :: r, s, h => rnG_kp r (gt o s) (gt_kp h)
theorem tr_tr (a b : Int) (x : Nm) : nTr a (nTr b x) = nTr (a + b) x := by
  unfold nTr
  congr 1
  funext k
  show x.a (k - a - b) = x.a (k - (a + b))
  congr 1
  omega
theorem tr_full {x : Nm} (h : Anti x.a) : nTr 16 x = x := by
  obtain ⟨a, e⟩ := x
  unfold nTr
  congr 1
  funext k
  have h1 : a (k - 16 + 8) = -a (k - 16) := h (k - 16)
  have h2 : a (k - 8 + 8) = -a (k - 8) := h (k - 8)
  rw [show k - 16 + 8 = k - 8 by omega] at h1
  rw [show k - 8 + 8 = k by omega] at h2
  show a (k - 16) = a k
  omega
theorem tr_nil (x : Nm) : nTr 0 x = x := by
  obtain ⟨a, e⟩ := x
  unfold nTr
  congr 1
  funext k
  show a (k - 0) = a k
  rw [Int.sub_zero]
theorem tr_back {x : Nm} {k : Int} (hk : 0 ≤ k ∧ k ≤ 15) (h : Anti x.a) : nTr (opp k) (nTr k x) = x := by
  rw [tr_tr, opp_eq hk]
  split
  · rename_i e; rw [e]; exact tr_nil x
  · rw [show 16 - k + k = 16 by omega]; exact tr_full h
theorem hf_hf {x : Nm} (h : Anti x.a) : EqN (nHf (nHf (nAdd x x))) x := fun k => by
  have h1 := h (k - 4)
  rw [show k - 4 + 8 = k + 4 by omega] at h1
  simp only [nHf, nAdd, addR, trR, Int.pow_succ, Int.pow_add]
  rw [show k - 2 - 2 = k - 4 by omega, show k - 2 - -2 = k by omega, show k - -2 - 2 = k by omega, show k - -2 - -2 = k + 4 by omega, h1]
  grind
theorem add_diff (x y : Nm) : EqN (nAdd (nAdd x (nNeg y)) (nAdd y x)) (nAdd x x) := fun k => by
  simp only [nAdd, nNeg, negR, Int.pow_add]; grind
theorem add_diff2 (x y : Nm) : EqN (nAdd (nAdd x y) (nNeg (nAdd y (nNeg x)))) (nAdd x x) := fun k => by
  simp only [nAdd, nNeg, negR, Int.pow_add]; grind
/-- What undoes a gate. -/
theorem gt_undo {o : Gop} {n b : Int} (hc : opCode o n b = 0) (hf : PlFit o n b) {s : Nat → Nm} (h : ∀ x, Kpt (s x)) : gt (undoO o) (gt o s) = s := by
  have hK := opk_range hc
  have hcl : ∀ c ∈ o.ctl, 0 ≤ c ∧ c ≠ o.q := fun c hm => ⟨(hf.ctl c hm).1, hf.ne c hm⟩
  funext x
  have hfx : ons (fl x o.q) o.ctl = ons x o.ctl := onsFl hf.q.1 hcl
  unfold gt undoO
  simp only
  by_cases ho : ons x o.ctl = true
  · simp only [ho, hfx, if_true]
    by_cases h1 : o.kind = 1
    · simp only [h1, if_true]
      exact tr_back hK (h x).2
    simp only [h1, if_false]
    by_cases h4 : o.kind = 4
    · simp only [h4, if_true]
      cases hb : bt x o.q
      · simp
      · simp only [if_true]; exact tr_back hK (h x).2
    simp only [h4, if_false]
    by_cases h2 : o.kind = 2
    · simp only [h2, if_true, fl_fl]
    simp only [h2, if_false, fl_fl, bt_fl]
    refine (lw_one (h x).1 (EqN.symm ?_)).symm
    cases hb : bt x o.q
    · simp only [Bool.not_false, if_true, Bool.false_eq_true, if_false]
      refine (EqN.hf ((EqN.add (lw_eq _) (lw_eq _)).trans ((hf_add _ _).trans (EqN.hf (add_diff (s x) (s (fl x o.q))))))).trans (hf_hf (h x).2)
    · simp only [Bool.not_true, if_true, Bool.false_eq_true, if_false]
      refine (EqN.hf ((EqN.add (lw_eq _) (EqN.neg (lw_eq _))).trans ?_)).trans (hf_hf (h x).2)
      rw [← hf_neg]
      exact (hf_add _ _).trans (EqN.hf (add_diff2 (s x) (s (fl x o.q))))
  · have ho' : ons x o.ctl = false := by simpa using ho
    simp only [ho', Bool.false_eq_true, if_false]
/-- A circuit, and what undoes it behind it. -/
theorem rnG_undo {n b : Int} : ∀ (ops : List Gop), (∀ o ∈ ops, opCode o n b = 0 ∧ PlFit o n b ∧ o.kind < 5) → ∀ s : Nat → Nm, (∀ x, Kpt (s x)) → rnG (ops ++ invO ops) s = s
  | [], _, s, _ => rfl
  | o :: r, hall, s, h => by
    have hr := rnG_undo r (fun p hp => hall p (by simp [hp])) (gt o s) (gt_kp h)
    obtain ⟨h1, h2, _⟩ := hall o (by simp)
    have e : invO (o :: r) = invO r ++ [undoO o] := by unfold invO; simp
    rw [e, ← List.append_assoc, List.cons_append, rnG_app]
    have : rnG (o :: (r ++ invO r)) s = gt o s := hr
    rw [this]
    exact gt_undo h1 h2 h

/-- Where it is nought stays nought. -/
theorem gt_nought {q : Int} {v : Bool} {o : Gop} {s : Nat → Nm} (hne : o.kind ≠ 1 → o.q.toNat ≠ q.toNat) (h : ∀ x, bt x q = v → s x = nZ) : ∀ x, bt x q = v → gt o s x = nZ := by
  intro x hb
  have hx := h x hb
  unfold gt
  by_cases h1 : o.kind = 1
  · simp only [h1, if_true, hx, tr_z, ite_self]
  · have hy : s (fl x o.q) = nZ := h _ (by rw [bt_fl_ne (fun e => hne h1 e.symm)]; exact hb)
    simp only [hx, hy, tr_z, neg_z, ite_self]
    rw [lw_z hf_z]
    simp
end Go.Proofs.YthgmlhddanbbpaaDoor
namespace Go.Proofs.YthgmlhddanbbpaaDoor

def lTurn (q k : Int) (cnd : List Int) : Gop := ⟨4, (k + 16).tmod 16, [], q, 0, cnd⟩
def lFork (q : Int) : Gop := ⟨3, 0, [], q, 0, []⟩
def lFlip (q c : Int) : Gop := ⟨2, 0, [c], q, 0, []⟩
def lJoin (p q s : Int) : List Gop := [lFork s, lTurn s 2 [], lFlip s q, lTurn s 14 [], lFlip s p, lTurn s 2 [], lFlip s q, lTurn s 14 [], lFork s]
def lAround (o : Gop) : List Gop := if o.kind = 2 then [lFork o.q] else if o.kind = 3 then [lTurn o.q 4 [], lFork o.q, lTurn o.q 2 [], lFork o.q] else []
def ang (o : Gop) : Int := if o.kind = 2 ∨ o.kind = 3 then 8 else o.k
/-- How many joins are left where r qubits more are to be one. -/
def wntF (k : Int) : Nat → Nat
  | 0 => 0
  | r + 1 => if k % 2 ^ (r + 1) = 0 then 0 else wntF k r + 1
def wnt (o : Gop) : Nat := wntF (ang o) o.ctl.length
def isBas (o : Gop) : Bool := o.ctl.length == 0 || (o.ctl.length == 1 && o.kind == 2)
/-- The other qubit behind turn number i. -/
def oth (others : List Int) (i : Nat) : Int := others.getD (min (Lib.ctz 64 (i + 1)) (others.length - 1)) 0
/-- The turns of one qubit from number i on, r of them. -/
def lSums (q : Int) (others cnd : List Int) : Nat → Nat → Int → List Gop
  | 0, _, _ => []
  | r + 1, i, k => lTurn q k cnd :: (if others.length = 0 then [] else [lFlip q (oth others i)]) ++ lSums q others cnd r (i + 1) (-k)
def lAll (qs cnd : List Int) (part : Int) : Nat → List Gop
  | 0 => []
  | i + 1 => lAll qs cnd part i ++ lSums (qs.getD i 0) (qs.take i) cnd (2 ^ i) 0 part
def lJoined (sp : Int) (body : List Int → List Gop) : Nat → List Int → List Gop
  | 0, qs => body qs
  | t + 1, qs => lJoin (qs.getD 0 0) (qs.getD 1 0) (sp + t) ++ lJoined sp body t (qs.drop 2 ++ [sp + t]) ++ invO (lJoin (qs.getD 0 0) (qs.getD 1 0) (sp + t))
def lBody (k : Int) (cnd : List Int) (left : List Int) : List Gop := lAll left cnd (k / 2 ^ (left.length - 1)) left.length
def lowO (sp : Int) (o : Gop) : List Gop :=
  if isBas o then [o]
  else if ang o = 0 then []
  else lAround o ++ lJoined sp (lBody (ang o) o.cnd) (wnt o) (o.ctl ++ [o.q]) ++ invO (lAround o)
def lowA (sp : Int) (ops : List Gop) : List Gop := ops.flatMap (lowO sp)

/-- What is asked of each. -/
structure LOk (N B : Int) (g : Gop) : Prop where
  code : opCode g N B = 0
  bas : isBas g = true
section
variable {N B : Int}
theorem below_of {x n : Int} (h : 0 ≤ x ∧ x < n) : below x n = true := by unfold below; simp [h.1, h.2]
theorem lOk_turn {q k : Int} {cnd : List Int} (hq : 0 ≤ q ∧ q < N) (hk : -16 ≤ k) (hc : cndOk B cnd = true) : LOk N B (lTurn q k cnd) := by
  refine ⟨?_, rfl⟩
  have h1 : 0 ≤ (k + 16).tmod 16 ∧ (k + 16).tmod 16 < 16 := by
    rw [Int.tmod_eq_emod_of_nonneg (by omega)]
    omega
  unfold opCode lTurn
  simp only [usesK, usesQ, usesC, usesB, fitsB, ctlCode, List.length_nil]
  simp [below_of h1, below_of hq, hc]
theorem cndOk_nil (_hB : True) : cndOk B [] = true := by unfold cndOk; simp
theorem lOk_fork {q : Int} (hq : 0 ≤ q ∧ q < N) : LOk N B (lFork q) := by
  refine ⟨?_, rfl⟩
  unfold opCode lFork
  simp only [usesK, usesQ, usesC, usesB, fitsB, ctlCode, List.length_nil]
  simp [below_of hq, cndOk_nil trivial]
theorem lOk_flip {q c : Int} (hq : 0 ≤ q ∧ q < N) (hc : 0 ≤ c ∧ c < N) (hne : c ≠ q) : LOk N B (lFlip q c) := by
  refine ⟨?_, rfl⟩
  unfold opCode lFlip
  simp only [usesK, usesQ, usesC, usesB, fitsB, ctlCode, List.length_cons, List.length_nil]
  simp [below_of hq, below_of hc, cndOk_nil trivial, hne]
/-- Undone it is as good. -/
theorem opp_rngL {k : Int} (h : 0 ≤ k ∧ k < 16) : 0 ≤ opp k ∧ opp k < 16 := by
  unfold opp
  rw [Int.tmod_eq_emod_of_nonneg (by omega)]
  omega
theorem lOk_undo {g : Gop} (h : LOk N B g) (_hk : g.kind = 2 ∨ g.kind = 3 ∨ g.kind = 4) : LOk N B (undoO g) := by
  obtain ⟨h1, h2⟩ := h
  refine ⟨?_, h2⟩
  unfold opCode at h1 ⊢
  by_cases a1 : g.kind < 1 ∨ 6 < g.kind
  · omega
  rw [if_neg a1] at h1
  show (if g.kind < 1 ∨ 6 < g.kind then (8 : Int) else _) = 0
  rw [if_neg a1]
  by_cases a2 : fitsB g.k 16 (usesK g.kind) = false
  · rw [if_pos a2] at h1; omega
  rw [if_neg a2] at h1
  have a2' : ¬ fitsB (undoO g).k 16 (usesK (undoO g).kind) = false := by
    show ¬ fitsB (opp g.k) 16 (usesK g.kind) = false
    have h3 : fitsB g.k 16 (usesK g.kind) = true := by simpa using a2
    have : fitsB (opp g.k) 16 (usesK g.kind) = true := by
      unfold fitsB at h3 ⊢
      split
      · rename_i hu
        rw [if_pos hu] at h3
        exact below_of (opp_rngL (by
          unfold below at h3
          simp only [Bool.and_eq_true, decide_eq_true_eq] at h3
          exact h3))
      · rename_i hu
        rw [if_neg hu] at h3
        have : g.k = 0 := by simpa using h3
        rw [this]
        decide
    simp [this]
  rw [if_neg a2']
  exact h1
theorem kind_join {p q s : Int} {g : Gop} (h : g ∈ lJoin p q s) : g.kind = 2 ∨ g.kind = 3 ∨ g.kind = 4 := by
  unfold lJoin at h
  simp only [List.mem_cons, List.not_mem_nil, or_false] at h
  rcases h with rfl | rfl | rfl | rfl | rfl | rfl | rfl | rfl | rfl <;> simp [lFork, lTurn, lFlip]
theorem kind_around {o g : Gop} (h : g ∈ lAround o) : g.kind = 2 ∨ g.kind = 3 ∨ g.kind = 4 := by
  unfold lAround at h
  split at h
  · simp only [List.mem_cons, List.not_mem_nil, or_false] at h
    rw [h]; simp [lFork]
  · split at h
    · simp only [List.mem_cons, List.not_mem_nil, or_false] at h
      rcases h with rfl | rfl | rfl | rfl <;> simp [lFork, lTurn]
    · simp at h
theorem lOk_join {p q s : Int} (hp : 0 ≤ p ∧ p < N) (hq : 0 ≤ q ∧ q < N) (hs : 0 ≤ s ∧ s < N) (h1 : p ≠ s) (h2 : q ≠ s) : ∀ g ∈ lJoin p q s, LOk N B g := by
  intro g h
  unfold lJoin at h
  simp only [List.mem_cons, List.not_mem_nil, or_false] at h
  rcases h with rfl | rfl | rfl | rfl | rfl | rfl | rfl | rfl | rfl
  · exact lOk_fork hs
  · exact lOk_turn hs (by decide) (cndOk_nil trivial)
  · exact lOk_flip hs hq h2
  · exact lOk_turn hs (by decide) (cndOk_nil trivial)
  · exact lOk_flip hs hp h1
  · exact lOk_turn hs (by decide) (cndOk_nil trivial)
  · exact lOk_flip hs hq h2
  · exact lOk_turn hs (by decide) (cndOk_nil trivial)
  · exact lOk_fork hs
theorem lOk_around {o : Gop} (hq : 0 ≤ o.q ∧ o.q < N) : ∀ g ∈ lAround o, LOk N B g := by
  intro g h
  unfold lAround at h
  split at h
  · simp only [List.mem_cons, List.not_mem_nil, or_false] at h
    rw [h]; exact lOk_fork hq
  · split at h
    · simp only [List.mem_cons, List.not_mem_nil, or_false] at h
      rcases h with rfl | rfl | rfl | rfl
      · exact lOk_turn hq (by decide) (cndOk_nil trivial)
      · exact lOk_fork hq
      · exact lOk_turn hq (by decide) (cndOk_nil trivial)
      · exact lOk_fork hq
    · simp at h
theorem lOk_inv {l : List Gop} (h : ∀ g ∈ l, LOk N B g) (hk : ∀ g ∈ l, g.kind = 2 ∨ g.kind = 3 ∨ g.kind = 4) : ∀ g ∈ invO l, LOk N B g := by
  intro g hg
  unfold invO at hg
  obtain ⟨x, hx, rfl⟩ := List.mem_map.1 hg
  have hx' := List.mem_reverse.1 hx
  exact lOk_undo (h x hx') (hk x hx')
theorem oth_mem {others : List Int} (h : others.length ≠ 0) (i : Nat) : oth others i ∈ others := by
  unfold oth
  have hl : min (Lib.ctz 64 (i + 1)) (others.length - 1) < others.length := by omega
  rw [List.getD_eq_getElem?_getD, List.getElem?_eq_getElem hl]
  exact List.getElem_mem hl
theorem lOk_sums {q : Int} {others cnd : List Int} (hq : 0 ≤ q ∧ q < N) (ho : ∀ c ∈ others, (0 ≤ c ∧ c < N) ∧ c ≠ q) (hc : cndOk B cnd = true) : ∀ (r i : Nat) (k : Int), -16 ≤ k ∧ k ≤ 16 → ∀ g ∈ lSums q others cnd r i k, LOk N B g
  | 0, _, _, _, g, h => by simp [lSums] at h
  | r + 1, i, k, hk, g, h => by
    unfold lSums at h
    simp only [List.mem_cons, List.mem_append] at h
    rcases h with (rfl | h) | h
    · exact lOk_turn hq (by omega) hc
    · split at h
      · simp at h
      · rename_i hl
        simp only [List.mem_cons, List.not_mem_nil, or_false] at h
        rw [h]
        have := ho _ (oth_mem hl i)
        exact lOk_flip hq this.1 this.2
    · exact lOk_sums hq ho hc r (i + 1) (-k) (by omega) g h
theorem nodup_take {l : List Int} (h : l.Nodup) {i : Nat} (hi : i < l.length) : ∀ c ∈ l.take i, c ≠ l.getD i 0 := by
  intro c hc e
  have h1 : l.take (i + 1) = l.take i ++ [l[i]] := by rw [List.take_add_one, List.getElem?_eq_getElem hi]; rfl
  have h2 : (l.take (i + 1)).Nodup := h.sublist (List.take_sublist _ _)
  rw [h1] at h2
  have h3 := (List.nodup_append.1 h2).2.2 c hc l[i] (by simp)
  rw [List.getD_eq_getElem?_getD, List.getElem?_eq_getElem hi] at e
  exact h3 e
theorem lOk_all {qs cnd : List Int} {part : Int} (hn : qs.Nodup) (hr : ∀ c ∈ qs, 0 ≤ c ∧ c < N) (hc : cndOk B cnd = true) (hp : -16 ≤ part ∧ part ≤ 16) : ∀ i, i ≤ qs.length → ∀ g ∈ lAll qs cnd part i, LOk N B g
  | 0, _, g, h => by simp [lAll] at h
  | i + 1, hi, g, h => by
    unfold lAll at h
    rcases List.mem_append.1 h with h | h
    · exact lOk_all hn hr hc hp i (by omega) g h
    · have hil : i < qs.length := by omega
      have hm : qs.getD i 0 ∈ qs := by
        rw [List.getD_eq_getElem?_getD, List.getElem?_eq_getElem hil]
        exact List.getElem_mem hil
      exact lOk_sums (hr _ hm) (fun c hcm => ⟨hr c (List.mem_of_mem_take hcm), nodup_take hn hil c hcm⟩) hc (2 ^ i) 0 part hp g h
/-- Each of what joined makes. -/
theorem lOk_joined {sp : Int} {body : List Int → List Gop} (hs : 0 ≤ sp) (hb : ∀ qs : List Int, qs.Nodup → (∀ c ∈ qs, 0 ≤ c ∧ c < N) → ∀ g ∈ body qs, LOk N B g) :
    ∀ (t : Nat) (qs : List Int), sp + t ≤ N → t < qs.length → qs.Nodup → (∀ c ∈ qs, (0 ≤ c ∧ c < N) ∧ (c < sp ∨ sp + t ≤ c)) → ∀ g ∈ lJoined sp body t qs, LOk N B g
  | 0, qs, _, _, hn, hr, g, h => hb qs hn (fun c hc => (hr c hc).1) g h
  | t + 1, qs, hN, hl, hn, hr, g, h => by
    match qs, hl, hn, hr, h with
    | p :: q :: r, hl, hn, hr, h =>
      simp only [lJoined, List.getD_cons_zero, List.getD_cons_succ, List.drop_succ_cons, List.drop_zero] at h
      have hp := hr p (by simp); have hq := hr q (by simp)
      have hj := lOk_join (N := N) (B := B) (p := p) (q := q) (s := sp + t) hp.1 hq.1 (by omega) (by have := hp.2; omega) (by have := hq.2; omega)
      rcases List.mem_append.1 h with h | h
      · rcases List.mem_append.1 h with h | h
        · exact hj g h
        · refine lOk_joined hs hb t (r ++ [sp + t]) (by omega) (by simp at hl ⊢; omega) ?_ ?_ g h
          · have hn2 : r.Nodup := (List.nodup_cons.1 (List.nodup_cons.1 hn).2).2
            rw [List.nodup_append]
            refine ⟨hn2, by simp, fun a ha b hb' => ?_⟩
            have hb2 : b = sp + t := by simpa using hb'
            rw [hb2]
            have := (hr a (by simp [ha])).2
            omega
          · intro c hc
            rcases List.mem_append.1 hc with hc | hc
            · have := hr c (by simp [hc])
              exact ⟨this.1, by omega⟩
            · have : c = sp + t := by simpa using hc
              rw [this]
              exact ⟨by omega, Or.inr (by omega)⟩
      · exact lOk_inv hj (fun g hg => kind_join hg) g h
    | [_], hl, _, _, _ => simp at hl
    | [], hl, _, _, _ => simp at hl
end
/-! How many there are. -/
theorem len_inv (l : List Gop) : (invO l).length = l.length := by unfold invO; simp
theorem len_joined (sp : Int) (body : List Int → List Gop) : ∀ (t : Nat) (qs : List Int), t < qs.length → ∃ l : List Int, l.length = qs.length - t ∧ (lJoined sp body t qs).length = 18 * t + (body l).length
  | 0, qs, _ => ⟨qs, rfl, by simp [lJoined]⟩
  | t + 1, qs, hl => by
    obtain ⟨l, h1, h2⟩ := len_joined sp body t (qs.drop 2 ++ [sp + t]) (by simp; omega)
    refine ⟨l, by rw [h1]; simp; omega, ?_⟩
    simp only [lJoined, List.length_append, h2, len_inv]
    simp only [lJoin, List.length_cons, List.length_nil]
    omega
theorem len_sums (q : Int) (others cnd : List Int) : ∀ (r i : Nat) (k : Int), (lSums q others cnd r i k).length = if others.length = 0 then r else 2 * r
  | 0, _, _ => by simp [lSums]
  | r + 1, i, k => by
    simp only [lSums, List.length_append, List.length_cons, len_sums q others cnd r (i + 1) (-k)]
    split
    · simp; omega
    · simp; omega
theorem len_all (qs cnd : List Int) (part : Int) : ∀ i, i ≤ qs.length → (lAll qs cnd part i).length ≤ 4 * 2 ^ i ∧ (i = 0 → (lAll qs cnd part i).length = 0) ∧ (i = 1 → (lAll qs cnd part i).length = 1)
  | 0, _ => by simp [lAll]
  | i + 1, hi => by
    obtain ⟨h1, h2, h3⟩ := len_all qs cnd part i (by omega)
    simp only [lAll, List.length_append, len_sums, List.length_take]
    have hm : min i qs.length = i := by omega
    rw [hm]
    by_cases e : i = 0
    · subst e
      simp [lAll]
    · rw [if_neg e]
      refine ⟨by rw [Nat.pow_succ]; omega, by omega, by omega⟩
/-- The sum proper, where r qubits are left. -/
theorem wntF_le (k : Int) : ∀ L, wntF k L ≤ L
  | 0 => Nat.le_refl _
  | r + 1 => by
    unfold wntF
    split
    · exact Nat.zero_le _
    · exact Nat.succ_le_succ (wntF_le k r)
theorem wntF_div (k : Int) : ∀ L, k % 2 ^ (L - wntF k L) = 0
  | 0 => by simp [wntF, Int.emod_one]
  | r + 1 => by
    unfold wntF
    split
    · rename_i h; exact h
    · have := wntF_div k r
      rw [show r + 1 - (wntF k r + 1) = r - wntF k r by omega]
      exact this
end Go.Proofs.YthgmlhddanbbpaaDoor
namespace Go.Proofs.YthgmlhddanbbpaaDoor

theorem ctl_ne (q n : Int) : ∀ (l s : List Int), ctlCode q n s l = 0 → ∀ c ∈ l, c ≠ q
  | [], _, _ => fun c hc => by simp at hc
  | d :: r, s, h => by
    unfold ctlCode at h
    split at h
    · omega
    split at h
    · omega
    rename_i h1 h2
    intro c hc
    rcases List.mem_cons.1 hc with rfl | hc
    · exact fun e => h2 (Or.inl e)
    · exact ctl_ne q n r _ h c hc
theorem ctl_wide (q : Int) {n N : Int} (hN : n ≤ N) : ∀ (l s : List Int), ctlCode q n s l = 0 → ctlCode q N s l = 0
  | [], _, _ => rfl
  | d :: r, s, h => by
    unfold ctlCode at h ⊢
    split at h
    · omega
    rename_i h1
    split at h
    · omega
    rename_i h2
    have h3 : below d n = true := by simpa using h1
    have h4 := below_iff.1 h3
    rw [if_neg (by rw [below_of (n := N) (by omega)]; decide), if_neg h2]
    exact ctl_wide q hN r _ h
/-- What an operation without a fault keeps to. -/
structure OpFit (o : Gop) (n B : Int) : Prop where
  kd : 1 ≤ o.kind ∧ o.kind ≤ 6
  k : 0 ≤ o.k ∧ o.k < 16
  q : 0 < o.ctl.length → 0 ≤ o.q ∧ o.q < n
  ctl : ∀ c ∈ o.ctl, (0 ≤ c ∧ c < n) ∧ c ≠ o.q
  nd : o.ctl.Nodup
  use : 0 < o.ctl.length → o.kind = 2 ∨ o.kind = 3 ∨ o.kind = 4
  cnd : cndOk B o.cnd = true
  len : 0 < o.ctl.length → n ≤ 12 → o.ctl.length ≤ 11
theorem opFit_of {o : Gop} {n B : Int} (h : opCode o n B = 0) : OpFit o n B := by
  unfold opCode at h
  split at h
  · omega
  rename_i hk
  split at h
  · omega
  rename_i hkk
  split at h
  · omega
  rename_i hq
  split at h
  · omega
  rename_i hu
  split at h
  · exact absurd h (by assumption)
  rename_i hc
  split at h
  · omega
  split at h
  · omega
  rename_i hcn
  have hc0 : ctlCode o.q n [] o.ctl = 0 := by
    by_cases e : ctlCode o.q n [] o.ctl = 0
    · exact e
    · exact absurd e hc
  obtain ⟨z1, z2⟩ := ctlCode_zero o.q n o.ctl [] hc0
  have z3 : o.ctl.Nodup := by simpa using z2 (by simp)
  have zne := ctl_ne o.q n o.ctl [] hc0
  have huse : 0 < o.ctl.length → o.kind = 2 ∨ o.kind = 3 ∨ o.kind = 4 := fun hl => by
    have : usesC o.kind = true := by
      by_cases e : usesC o.kind = false
      · exact absurd ⟨hl, e⟩ hu
      · simpa using e
    unfold usesC at this
    simp only [Bool.or_eq_true, beq_iff_eq] at this
    omega
  have hqq : 0 < o.ctl.length → 0 ≤ o.q ∧ o.q < n := fun hl => by
    have hk3 := huse hl
    have : usesQ o.kind = true := by
      unfold usesQ
      rcases hk3 with e | e | e <;> rw [e] <;> rfl
    unfold fitsB at hq
    rw [this] at hq
    have : below o.q n = true := by simpa using hq
    exact below_iff.1 this
  refine ⟨by omega, ?_, hqq, fun c hc => ⟨z1 c hc, zne c hc⟩, z3, huse, by simpa using hcn, fun hl hn => ?_⟩
  · unfold fitsB at hkk
    split at hkk
    · have : below o.k 16 = true := by simpa using hkk
      exact below_iff.1 this
    · have : o.k = 0 := by simpa using hkk
      omega
  · have h1 : (o.ctl ++ [o.q]).Nodup := by
      rw [List.nodup_append]
      refine ⟨z3, by simp, fun a ha b hb => ?_⟩
      have : b = o.q := by simpa using hb
      rw [this]
      exact zne a ha
    have := pigeon 12 (o.ctl ++ [o.q]) h1 (fun c hc => by
      rcases List.mem_append.1 hc with hc | hc
      · have := z1 c hc; omega
      · have e : c = o.q := by simpa using hc
        have := hqq hl
        rw [e]; omega)
    simp at this
    omega
theorem code_wide {o : Gop} {n N B : Int} (h : opCode o n B = 0) (hN : n ≤ N) : opCode o N B = 0 := by
  unfold opCode at h ⊢
  by_cases a1 : o.kind < 1 ∨ 6 < o.kind
  · rw [if_pos a1] at h; omega
  rw [if_neg a1] at h ⊢
  by_cases a2 : fitsB o.k 16 (usesK o.kind) = false
  · rw [if_pos a2] at h; omega
  rw [if_neg a2] at h ⊢
  by_cases a3 : fitsB o.q n (usesQ o.kind) = false
  · rw [if_pos a3] at h; omega
  rw [if_neg a3] at h
  have a3' : ¬ fitsB o.q N (usesQ o.kind) = false := by
    have h3 : fitsB o.q n (usesQ o.kind) = true := by simpa using a3
    have : fitsB o.q N (usesQ o.kind) = true := by
      unfold fitsB at h3 ⊢
      split
      · rename_i hu
        rw [if_pos hu] at h3
        have := below_iff.1 h3
        exact below_of (by omega)
      · rename_i hu
        rw [if_neg hu] at h3
        exact h3
    simp [this]
  rw [if_neg a3']
  by_cases a4 : 0 < o.ctl.length ∧ usesC o.kind = false
  · rw [if_pos a4] at h; omega
  rw [if_neg a4] at h ⊢
  by_cases a5 : ctlCode o.q n [] o.ctl = 0
  · rw [if_neg (fun e => e a5)] at h
    rw [if_neg (fun e => e (ctl_wide o.q hN o.ctl [] a5))]
    exact h
  · rw [if_pos a5] at h
    exact absurd h a5
theorem ang_range {o : Gop} (h : 0 ≤ o.k ∧ o.k < 16) : 0 ≤ ang o ∧ ang o < 16 := by unfold ang; split <;> omega
theorem div_range {k : Int} (h : 0 ≤ k ∧ k < 16) (m : Nat) : 0 ≤ k / 2 ^ m ∧ k / 2 ^ m < 16 := by
  have hp : (0 : Int) < 2 ^ m := Int.pow_pos (by decide)
  refine ⟨Int.ediv_nonneg h.1 (Int.le_of_lt hp), ?_⟩
  exact Int.lt_of_le_of_lt (Int.ediv_le_self _ h.1) h.2
/-- Each is a basic gate without a fault. -/
theorem low_ok {o : Gop} {n N B : Int} (h : opCode o n B = 0) (h0 : 0 ≤ n) (hN : n + wnt o ≤ N) : ∀ g ∈ lowO n o, LOk N B g := by
  have f := opFit_of h
  intro g hg
  unfold lowO at hg
  split at hg
  · rename_i hb
    have : g = o := by simpa using hg
    rw [this]
    exact ⟨code_wide h (by have := Int.natCast_nonneg (wnt o); omega), hb⟩
  rename_i hb
  split at hg
  · simp at hg
  have hl : 0 < o.ctl.length := by
    cases e : o.ctl with
    | nil => exact absurd (by unfold isBas; simp [e]) hb
    | cons => simp
  have hq := f.q hl
  have har := lOk_around (N := N) (B := B) (o := o) (by have := Int.natCast_nonneg (wnt o); omega)
  have hw := wntF_le (ang o) o.ctl.length
  rcases List.mem_append.1 hg with hg | hg
  · rcases List.mem_append.1 hg with hg | hg
    · exact har g hg
    · refine lOk_joined h0 (fun qs hn hr g hg => ?_) (wnt o) (o.ctl ++ [o.q]) hN (by simp; unfold wnt; omega) ?_ ?_ g hg
      · have := div_range (ang_range f.k) (qs.length - 1)
        exact lOk_all hn hr f.cnd (by omega) qs.length (Nat.le_refl _) g hg
      · rw [List.nodup_append]
        refine ⟨f.nd, by simp, fun a ha b hb => ?_⟩
        have : b = o.q := by simpa using hb
        rw [this]
        exact (f.ctl a ha).2
      · intro c hc
        have := Int.natCast_nonneg (wnt o)
        rcases List.mem_append.1 hc with hc | hc
        · have := f.ctl c hc
          exact ⟨by omega, Or.inl (by omega)⟩
        · have e : c = o.q := by simpa using hc
          rw [e]
          exact ⟨by omega, Or.inl (by omega)⟩
  · exact lOk_inv har (fun g hg => kind_around hg) g hg
theorem len_around (o : Gop) : (lAround o).length ≤ 4 := by
  unfold lAround
  split
  · simp
  · split <;> simp
/-- They are not too many. -/
theorem low_len {o : Gop} {n B : Int} (h : opCode o n B = 0) (hn : n ≤ 12) : (lowO n o).length ≤ if 0 < o.ctl.length then 221 else 1 := by
  have f := opFit_of h
  unfold lowO
  split
  · simp only [List.length_cons, List.length_nil]
    split <;> omega
  rename_i hb
  have hl : 0 < o.ctl.length := by
    cases e : o.ctl with
    | nil => exact absurd (by unfold isBas; simp [e]) hb
    | cons => simp
  rw [if_pos hl]
  split
  · simp
  rename_i hne
  have h11 := f.len hl hn
  have hw := wntF_le (ang o) o.ctl.length
  obtain ⟨l, h1, h2⟩ := len_joined n (lBody (ang o) o.cnd) (wnt o) (o.ctl ++ [o.q]) (by simp; unfold wnt; omega)
  have ha := len_around o
  simp only [List.length_append, len_inv, h2]
  simp only [List.length_append, List.length_cons, List.length_nil] at h1
  have hr := ang_range f.k
  have hd := wntF_div (ang o) o.ctl.length
  obtain ⟨r, hr1⟩ : ∃ r, o.ctl.length - wnt o = r := ⟨_, rfl⟩
  have hlr : l.length = r + 1 := by unfold wnt at hr1 h1; omega
  have hr4 : r ≤ 3 := by
    by_cases e : r ≤ 3
    · exact e
    · exfalso
      have h3 : ang o % 2 ^ r = 0 := by rw [← hr1]; exact hd
      have h4 : (16 : Int) ≤ 2 ^ r := by
        have h5 : (2 : Nat) ^ 4 ≤ 2 ^ r := Nat.pow_le_pow_right (by decide) (by omega)
        have h6 : ((2 ^ r : Nat) : Int) = (2 : Int) ^ r := by rw [Int.natCast_pow]; rfl
        rw [← h6]
        have h7 : (2 : Nat) ^ 4 = 16 := by decide
        omega
      rw [Int.emod_eq_of_lt hr.1 (by omega)] at h3
      exact hne h3
  have hA := len_all l o.cnd (ang o / 2 ^ (l.length - 1)) l.length (Nat.le_refl _)
  have hbd : (lBody (ang o) o.cnd l).length ≤ 4 * 2 ^ (r + 1) ∧ (r = 0 → (lBody (ang o) o.cnd l).length = 1) := by
    unfold lBody
    rw [hlr] at hA ⊢
    exact ⟨hA.1, fun e => hA.2.2 (by omega)⟩
  have hwr : wnt o + r = o.ctl.length := by unfold wnt at hr1 ⊢; omega
  have e : r = 0 ∨ r = 1 ∨ r = 2 ∨ r = 3 := by omega
  rcases e with rfl | rfl | rfl | rfl
  · have := hbd.2 rfl; omega
  · have := hbd.1; omega
  · have := hbd.1; omega
  · have := hbd.1; omega
/-- How many there are that measure or reset. -/
def mtO (g : Gop) : Nat := if 5 ≤ g.kind then 1 else 0
def mts (l : List Gop) : Nat := (l.map mtO).sum
theorem mts_append (a b : List Gop) : mts (a ++ b) = mts a + mts b := by unfold mts; simp
theorem mts_zero {l : List Gop} (h : ∀ g ∈ l, g.kind < 5) : mts l = 0 := by
  induction l with
  | nil => rfl
  | cons a r ih =>
    have h1 := h a (by simp)
    have h2 := ih (fun g hg => h g (by simp [hg]))
    unfold mts at h2 ⊢
    rw [List.map_cons, List.sum_cons, h2]
    unfold mtO
    rw [if_neg (by omega)]
theorem kind_sums {q : Int} {others cnd : List Int} : ∀ (r i : Nat) (k : Int), ∀ g ∈ lSums q others cnd r i k, g.kind < 5
  | 0, _, _, g, h => by simp [lSums] at h
  | r + 1, i, k, g, h => by
    unfold lSums at h
    simp only [List.mem_cons, List.mem_append] at h
    rcases h with (rfl | h) | h
    · simp [lTurn]
    · split at h
      · simp at h
      · simp only [List.mem_cons, List.not_mem_nil, or_false] at h
        rw [h]; simp [lFlip]
    · exact kind_sums r (i + 1) (-k) g h
theorem kind_all {qs cnd : List Int} {part : Int} : ∀ i, ∀ g ∈ lAll qs cnd part i, g.kind < 5
  | 0, g, h => by simp [lAll] at h
  | i + 1, g, h => by
    unfold lAll at h
    rcases List.mem_append.1 h with h | h
    · exact kind_all i g h
    · exact kind_sums _ _ _ g h
theorem kind_inv {l : List Gop} (h : ∀ g ∈ l, g.kind < 5) : ∀ g ∈ invO l, g.kind < 5 := by
  intro g hg
  unfold invO at hg
  obtain ⟨x, hx, rfl⟩ := List.mem_map.1 hg
  exact h x (List.mem_reverse.1 hx)
theorem kind_joined {sp : Int} {body : List Int → List Gop} (hb : ∀ qs : List Int, ∀ g ∈ body qs, g.kind < 5) : ∀ (t : Nat) (qs : List Int), ∀ g ∈ lJoined sp body t qs, g.kind < 5
  | 0, qs, g, h => hb qs g h
  | t + 1, qs, g, h => by
    unfold lJoined at h
    have hj : ∀ g ∈ lJoin (qs.getD 0 0) (qs.getD 1 0) (sp + t), g.kind < 5 := fun g hg => by have := kind_join hg; omega
    rcases List.mem_append.1 h with h | h
    · rcases List.mem_append.1 h with h | h
      · exact hj g h
      · exact kind_joined hb t _ g h
    · exact kind_inv hj g h
theorem low_mts {o : Gop} {n B : Int} (h : opCode o n B = 0) : mts (lowO n o) = mtO o := by
  have f := opFit_of h
  unfold lowO
  split
  · unfold mts; simp
  rename_i hb
  have hl : 0 < o.ctl.length := by
    cases e : o.ctl with
    | nil => exact absurd (by unfold isBas; simp [e]) hb
    | cons => simp
  have hk := f.use hl
  have h0 : mtO o = 0 := by unfold mtO; rw [if_neg (by omega)]
  rw [h0]
  split
  · rfl
  have ha : ∀ g ∈ lAround o, g.kind < 5 := fun g hg => by have := kind_around hg; omega
  refine mts_zero (fun g hg => ?_)
  rcases List.mem_append.1 hg with hg | hg
  · rcases List.mem_append.1 hg with hg | hg
    · exact ha g hg
    · exact kind_joined (fun qs g hg => kind_all _ g hg) _ _ g hg
  · exact kind_inv ha g hg
end Go.Proofs.YthgmlhddanbbpaaDoor
