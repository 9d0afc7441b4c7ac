/-
  The program's Inverse: what it answers lies in memory of its own. What both sides answer, in one form: a circuit in memory of its own, and a fault.
-/
import Derived.Test.YtapolidgocfbjaaDoorProg
import Derived.Test.YtapolidgocfbjaaDoorRows
import Derived.BigQuiet
import Derived.Deep.AppendLies
import Derived.Deep.Cut
import Derived.Deep.CutRange
import Derived.Deep.LoopGhost
import Derived.Deep.QuietTactic
import Derived.Deep.RegionHeld3
import Derived.Defers
import Derived.Laws.AppendOwnNone
import Derived.Laws.Bits64b
import Derived.Laws.Concat
import Derived.Laws.CopyOwn
import Derived.Laws.IdiomStrings
import Derived.Laws.ResultCell
import Derived.Lib.AppendStr
import Derived.Lib.AppendZeros
import Derived.Lib.AppendZerosOnto
import Derived.Lib.BitFns
import Derived.Lib.Hide
import Derived.Lib.ItoaMem
import Derived.Lib.ItoaNum
import Derived.Lib.Strings
import Derived.Maps.AppendAt
import Derived.OwnWalk
import Derived.Recover
import Derived.Shelf.LaysM
import Derived.Shelf.Strconv.Itoa0
import Derived.Shelf.Strconv.Itoa1
import Derived.Shelf.Strconv.Itoa2
import Derived.Shelf.Strconv.Itoa3
import Derived.Shelf.Strings.Builder1
import Derived.Shelf.Strings.BuilderF
import Derived.Shelf.Strings.BuilderK
import Derived.WalkKit
import Derived.WalkLawsBesides
import Derived.WalkSpells
import Derived.Test.YtapolidgocfbjaaDoorS00Ce
import Derived.Test.YtapolidgocfbjaaDoorS01Cj
import Derived.Test.YtapolidgocfbjaaDoorShelf
import Derived.Test.YtapolidgocfbjaaDoorS03Cq
import Derived.Test.YtapolidgocfbjaaDoorS04Ka
import Derived.Test.YtapolidgocfbjaaDoorS05Jj
import Derived.Test.YtapolidgocfbjaaDoorS06Kl
namespace Go.Proofs.YtapolidgocfbjaaDoor
open Go.RowKit

/-- An operation of a row is undone. -/
theorem rowF_undo {w w' : World} {base : Nat} {cs : Array Value} {ops : List Gop} {n i : Nat} {gi : Gop} (hl : ops.length = n) (hi : i < n) (hsz : n * 6 ≤ cs.size) (h : RowF w base (fun p => cs[p]?) (invF ops i)) (hgi : ops[i]? = some gi)
    (hk : ∀ g a1 n1 c1 a2 n2 c2, OpN w base g a1 n1 c1 a2 n2 c2 → OpN w' base g a1 n1 c1 a2 n2 c2) : RowF w' base (fun p => (cs.setIfInBounds (i * 6 + 1) (.int .i64 (opp gi.k)))[p]?) (invF ops (i + 1)) := by
  intro t g hg
  have ht : t < n := by have := (List.getElem?_eq_some_iff.1 hg).1; rw [invF_len, hl] at this; exact this
  rw [invF_get (by omega)] at hg
  by_cases e1 : t = i
  · subst e1
    rw [if_pos (by omega), hgi] at hg
    injection hg with hg
    subst hg
    obtain ⟨x1, x2, x3, x4, x5, x6, y0, y1, y2, y3, y4, y5, y6⟩ := h t gi (by rw [invF_get (by omega), if_neg (by omega)]; exact hgi)
    have ho := hk _ _ _ _ _ _ _ y6
    refine ⟨x1, x2, x3, x4, x5, x6, ?_, ?_, ?_, ?_, ?_, ?_, ⟨ho.i1, ho.i2, ho.ne⟩⟩
    · show (cs.setIfInBounds _ _)[_]? = _; rw [Array.getElem?_setIfInBounds, if_neg (by omega)]; exact y0
    · show (cs.setIfInBounds _ _)[_]? = _; rw [Array.getElem?_setIfInBounds, if_pos rfl, if_pos (by omega)]; rfl
    · show (cs.setIfInBounds _ _)[_]? = _; rw [Array.getElem?_setIfInBounds, if_neg (by omega)]; exact y2
    · show (cs.setIfInBounds _ _)[_]? = _; rw [Array.getElem?_setIfInBounds, if_neg (by omega)]; exact y3
    · show (cs.setIfInBounds _ _)[_]? = _; rw [Array.getElem?_setIfInBounds, if_neg (by omega)]; exact y4
    · show (cs.setIfInBounds _ _)[_]? = _; rw [Array.getElem?_setIfInBounds, if_neg (by omega)]; exact y5
  · have hg' : (invF ops i)[t]? = some g := by
      rw [invF_get (by omega)]
      by_cases e3 : t < i
      · rw [if_pos e3]; rw [if_pos (by omega)] at hg; exact hg
      · rw [if_neg e3]; rw [if_neg (by omega)] at hg; exact hg
    obtain ⟨x1, x2, x3, x4, x5, x6, y0, y1, y2, y3, y4, y5, y6⟩ := h t g hg'
    refine ⟨x1, x2, x3, x4, x5, x6, ?_, ?_, ?_, ?_, ?_, ?_, hk _ _ _ _ _ _ _ y6⟩
    · show (cs.setIfInBounds _ _)[_]? = _; rw [Array.getElem?_setIfInBounds, if_neg (by omega)]; exact y0
    · show (cs.setIfInBounds _ _)[_]? = _; rw [Array.getElem?_setIfInBounds, if_neg (by omega)]; exact y1
    · show (cs.setIfInBounds _ _)[_]? = _; rw [Array.getElem?_setIfInBounds, if_neg (by omega)]; exact y2
    · show (cs.setIfInBounds _ _)[_]? = _; rw [Array.getElem?_setIfInBounds, if_neg (by omega)]; exact y3
    · show (cs.setIfInBounds _ _)[_]? = _; rw [Array.getElem?_setIfInBounds, if_neg (by omega)]; exact y4
    · show (cs.setIfInBounds _ _)[_]? = _; rw [Array.getElem?_setIfInBounds, if_neg (by omega)]; exact y5

theorem sepF_int {cs : Array Value} {m p : Nat} {z : Int} (h : SepF m (fun q => cs[q]?)) : SepF m (fun q => (cs.setIfInBounds p (.int .i64 z))[q]?) := by
  have key : ∀ (q : Nat) (u : Value) (k : Nat), (cs.setIfInBounds p (.int .i64 z))[q]? = some u → u.ownBlock = some k → cs[q]? = some u := by
    intro q u k hu hk
    rw [Array.getElem?_setIfInBounds] at hu
    split at hu
    · split at hu
      · cases hu; simp [Value.ownBlock] at hk
      · cases hu
    · exact hu
  intro i j k u v hi hj eu ev ku kv
  exact h i j k u v hi hj (key i u k eu ku) (key j v k ev kv) ku kv

set_option maxHeartbeats 8000000 in
set_option maxRecDepth 100000 in
theorem Inverse_N (c : Gci) (ao : Option Addr) (n cp : Nat) (w : World) (h : OpsAt w ao n c.ops) (hn : n ≤ cp) (hcp : cp ≤ 9223372036854775807) (hS : Shp w) (hp : (pur c).1 = 0) :
    Calls Tryd.prog 7 #[.agg #[.int .i64 c.qubits, .int .i64 c.bits, .slice ao n cp]] w fun e w' => (∃ (a' : Option Addr) (c' : Nat), e = .returned (.tuple #[.agg #[.int .i64 c.qubits, .int .i64 c.bits, .slice a' n c'], .agg #[.int .i64 0, .int .i64 0]]) ∧ OpsN w' (w.heap.size + 3) (.slice a' n c') (invO c.ops)) ∧ Ext w w' := by
  obtain ⟨hck, hpz⟩ := pur_zero hp
  obtain ⟨hz, hq1, hq2, hb1, hb2, hl4, hop⟩ := chk_zero hck
  have hfit : ∀ g ∈ c.ops, (g.ctl.length ≤ 1000 ∧ g.cnd.length ≤ 1000) ∧ 0 ≤ g.k ∧ g.k ≤ 15 := fun g hg => by
    have f := prFit_of_code hq2 hb1 hb2 (hop g hg)
    exact ⟨⟨Nat.le_trans f.few (by decide), Nat.le_trans f.cfew (by decide)⟩, opk_range (hop g hg)⟩
  have hl : c.ops.length = n := h.1
  rw [hl] at hl4
  obtain ⟨qb, bi, ops⟩ := c
  simp only at hfit hl h ⊢
  obtain ⟨H, hH⟩ : ∃ H, w.heap.size = H := ⟨_, rfl⟩
  obtain ⟨A1, hA1⟩ : ∃ A1, w.alloc (.cells #[.int .i64 qb, .int .i64 bi, .slice ao n cp] 24) = A1 := ⟨_, rfl⟩
  obtain ⟨A2, hA2⟩ : ∃ A2, A1.alloc (.cells #[.int .i64 0, .int .i64 0, .slice none 0 0] 24) = A2 := ⟨_, rfl⟩
  obtain ⟨A3, hA3⟩ : ∃ A3, A2.alloc (.cells #[.int .i64 0, .int .i64 0] 28) = A3 := ⟨_, rfl⟩
  have s1 : A1.heap.size = H + 1 := by rw [← hA1, ← hH]; simp
  have s2 : A2.heap.size = H + 2 := by rw [← hA2]; simp; omega
  have s3 : A3.heap.size = H + 3 := by rw [← hA3]; simp; omega
  have x1 : Ext w A1 := by rw [← hA1]; exact ext_al _ _
  have x2 : Ext A1 A2 := by rw [← hA2]; exact ext_al _ _
  have x3 : Ext A2 A3 := by rw [← hA3]; exact ext_al _ _
  have bC : CiB A3 H qb bi ao n cp := by
    have : CiB A1 H qb bi ao n cp := by rw [← hA1, ← hH]; exact ⟨heap_alloc_new w _⟩
    exact (this.ext x2).ext x3
  have bR : CiB A3 (H + 1) 0 0 none 0 0 := by
    have : CiB A2 (H + 1) 0 0 none 0 0 := by rw [← hA2, ← s1]; exact ⟨heap_alloc_new A1 _⟩
    exact this.ext x3
  have bF : FtB A3 (H + 2) 0 0 := by rw [← hA3, ← s2]; exact ⟨heap_alloc_new A2 _⟩
  have E0 : Ext w A3 := (x1.trans x2).trans x3
  have hA : ((w.alloc (.cells #[.int .i64 qb, .int .i64 bi, .slice ao n cp] 24)).alloc (.cells #[.int .i64 0, .int .i64 0, .slice none 0 0] 24)).alloc (.cells #[.int .i64 0, .int .i64 0] 28) = A3 := by rw [hA1, hA2, hA3]
  have HK := Lib.hid (Pure_any ⟨qb, bi, ops⟩ ao n cp A3 (h.ext E0) hn hcp (hS.ext E0))
  rw [hpz] at HK
  simp only at HK
  have m0 := bC.x0; have m1 := bC.x1; have m2 := bC.x2
  rw [← hA] at m0 m1 m2
  have HA := Lib.hid hA; have HE0 := Lib.hid E0; have HC := Lib.hid bC; have HR := Lib.hid bR; have HFt := Lib.hid bF
  have Hops := Lib.hid (h.ext E0); have Hfit := Lib.hid hfit; have Hl := Lib.hid hl; have Hs3 := Lib.hid s3; have HhH := Lib.hid hH
  clear h hS hpz E0 bC bR bF x1 x2 x3 s1 s2 s3 hA1 hA2 hA3 hA hfit hl hck hz hq1 hq2 hb1 hb2 hop hp
  go_enter Tryd.func7, Tryd.ntmps7
  go_wp2_with fail
  rw [HA.out]
  refine HK.out.mono ?_
  rintro e w1 ⟨rfl, hx1⟩
  have Ef := ext_al w1 (.cells #[.int .i64 0, .int .i64 0] 28)
  have bf1 : FtB (w1.alloc (.cells #[.int .i64 0, .int .i64 0] 28)) w1.heap.size 0 0 := ⟨heap_alloc_new w1 _⟩
  have q0 := bf1.x0; have q1 := bf1.x1
  have hX := hx1.trans Ef
  have bC1 := HC.out.ext hX
  have y0 := bC1.x0; have y1 := bC1.x1; have y2 := bC1.x2
  have HR1 := Lib.hid (HR.out.ext hX); have HF1 := Lib.hid (HFt.out.ext hX); have HE1 := Lib.hid (HE0.out.trans hX); have Hops1 := Lib.hid (Hops.out.ext hX)
  have Hsz1 := Lib.hid (show H + 3 ≤ (w1.alloc (.cells #[.int .i64 0, .int .i64 0] 28)).heap.size by rw [← Hs3.out]; exact hX.size)
  clear hx1 Ef bf1 hX bC1 HK HC HR HFt HE0 Hops m0 m1 m2
  go_wp2_with fail
  generalize w1.alloc (.cells #[.int .i64 0, .int .i64 0] 28) = W1 at *
  refine (with_N qb bi ao n cp ao n cp ops W1 Hops1.out (by omega) (fun g hg => (Hfit.out g hg).1)).mono ?_
  rintro e w2 ⟨⟨av, cv, rfl, hO2⟩, hx2⟩
  obtain ⟨Ob, hOb⟩ : ∃ x, w2.heap.size = x := ⟨_, rfl⟩
  have Eo := ext_al w2 (.cells #[.int .i64 qb, .int .i64 bi, .slice av n cv] 24)
  have bO : CiB (w2.alloc (.cells #[.int .i64 qb, .int .i64 bi, .slice av n cv] 24)) Ob qb bi av n cv := by rw [← hOb]; exact ⟨heap_alloc_new w2 _⟩
  have z2 := bO.x2
  have hlt2 : ∀ k, (Value.slice av n cv).ownBlock = some k → H + 3 ≤ k ∧ k < Ob := by
    obtain ⟨xs, hox⟩ := hO2
    have ho := hox.own
    intro k hk
    have h1 := own_lt ho k hk
    have h2 := Hsz1.out
    omega
  have HOo := Lib.hid (hO2.ext Eo); have HbO := Lib.hid bO; have HR2 := Lib.hid (HR1.out.ext (hx2.trans Eo)); have HF2 := Lib.hid (HF1.out.ext (hx2.trans Eo)); have HE2 := Lib.hid (HE1.out.trans (hx2.trans Eo)); have Hlt2 := Lib.hid hlt2
  have Hb3 := Lib.hid (show H + 3 ≤ W1.heap.size + 3 by have := Hsz1.out; omega)
  clear hO2 hx2 Eo bO hlt2 HR1 HF1 HE1 Hops1 y0 y1 y2 q0 q1
  go_wp2_with fail
  generalize w2.alloc (.cells #[.int .i64 qb, .int .i64 bi, .slice av n cv] 24) = W2 at *
  refine (reverse_N (W1.heap.size + 3) av n cv ops W2 HOo.out (by omega)).mono ?_
  rintro e w3 ⟨rfl, hO3, hrv⟩
  have bO3 := HbO.out.rvs hrv (fun e => by have := (Hlt2.out _ e).2; omega)
  have y2 := bO3.x2
  have HR3 := Lib.hid (HR2.out.rvs hrv (fun e => by have := (Hlt2.out _ e).1; omega)); have HF3 := Lib.hid (HF2.out.rvs hrv (fun e => by have := (Hlt2.out _ e).1; omega)); have HE3 := Lib.hid (hrv.ext HE2.out (fun i e => by have := (Hlt2.out _ e).1; have := HhH.out; omega))
  have HbO3 := Lib.hid bO3; have HO3 := Lib.hid hO3
  clear hrv bO3 hO3 HOo HbO HR2 HF2 HE2 z2
  go_wp2_with fail
  obtain ⟨rops, hrops⟩ : ∃ x, ops.reverse = x := ⟨_, rfl⟩
  have Hrl := Lib.hid (show rops.length = n by rw [← hrops, List.length_reverse]; exact Hl.out)
  have Hrf := Lib.hid (show ∀ g ∈ rops, 0 ≤ g.k ∧ g.k ≤ 15 from fun g hg => (Hfit.out g (by rw [← hrops] at hg; exact List.mem_reverse.1 hg)).2)
  have Hinv := Lib.hid (show invO ops = rops.map undoO by unfold invO; rw [hrops])
  rw [hrops] at HO3
  clear hrops Hfit
  obtain ⟨base, hbase⟩ : ∃ x, W1.heap.size + 3 = x := ⟨_, rfl⟩
  rw [hbase] at HO3 Hb3
  clear hbase
  go_loopg [6, 7, 25] n (fun kk s6 s7 s25 wx => ∃ (i : Nat), s25 = .int .i64 (i : Int) ∧ i ≤ n ∧ n - i = kk ∧ CiB wx (H + 1) 0 0 none 0 0 ∧ FtB wx (H + 2) 0 0 ∧ CiB wx Ob qb bi av n cv ∧ OpsN wx base (.slice av n cv) (invF rops i) ∧ Ext w wx ∧ H + 3 ≤ wx.heap.size ∧ Ob < wx.heap.size)
  case atStart => exact ⟨0, rfl, by omega, by omega, HR3.out, HF3.out, HbO3.out, by rw [invF_zero]; exact HO3.out, HE3.out, by have := HF3.out.lt; omega, HbO3.out.lt⟩
  case round =>
    clear HR3 HF3 HbO3 HO3 HE3 y2
    obtain ⟨i, rfl, hin', hk, bR, bF, bO, hO, hX, hs3, hsO⟩ := hrel
    by_cases hin : i = n
    · have q1 : ¬ (i : Int) < (n : Int) := by omega
      have q1' : decide ((i : Int) < (n : Int)) = false := df q1
      rw [invF_all (by rw [Hrl.out]; omega), ← Hinv.out] at hO
      have y0 := bO.x0; have y1 := bO.x1; have y2 := bO.x2
      have r0 := bR.x0; have r1 := bR.x1; have r2 := bR.x2; have g0 := bR.f 0; have g1 := bR.f 1; have g2 := bR.f 2
      have f0 := bF.x0; have f1 := bF.x1; have k0 := bF.f 0; have k1 := bF.f 1
      have zC := putCF_C bR (show H + 1 ≠ H + 1 + 1 by omega) qb bi av n cv 0 0
      have zF := putCF_F bF (show H + 1 ≠ H + 2 by omega) qb bi av n cv 0 0
      have zO := putCF_opsN hO bR bF (show H + 1 ≠ H + 2 by omega) qb bi av n cv 0 0
      have zE : Ext w (putCF wr (H + 1) (H + 2) qb bi av n cv 0 0) := putCF_ext hX (show w.heap.size ≤ H + 1 by omega) (show w.heap.size ≤ H + 2 by omega) _ _ _ _ _ _ _
      obtain ⟨Wz, hWz⟩ : ∃ Wz, putCF wr (H + 1) (H + 2) qb bi av n cv 0 0 = Wz := ⟨_, rfl⟩
      rw [show H + 1 + 1 = H + 2 from rfl] at zC
      rw [hWz] at zC zF zO zE
      unfold putCF at hWz
      have HWz := Lib.hid hWz; have HzE := Lib.hid zE; have HzO := Lib.hid zO
      have v0 := zC.x0; have v1 := zC.x1; have v2 := zC.x2; have v3 := zF.x0; have v4 := zF.x1
      clear zC zF zO zE hWz bR bF bO hO hX hin hin' hk hs3 hsO
      go_wp2_with fail
      rw [HWz.out]
      have HH := HhH.out
      exact bodyPost_ret (v := .tuple #[.agg #[.int .i64 qb, .int .i64 bi, .slice av n cv], .agg #[.int .i64 0, .int .i64 0]]) (by simp [results, Tryd.results7, go_sem, v0, v1, v2, v3, v4]) rfl ⟨⟨av, cv, rfl, HzO.out.down (by have := Hb3.out; omega)⟩, HzE.out⟩
    · have q1 : (i : Int) < (n : Int) := by omega
      have q1' : decide ((i : Int) < (n : Int)) = true := dt q1
      have p0 : (0 : Int) ≤ (i : Int) := by omega
      obtain ⟨gg, hg⟩ : ∃ g, rops[i]? = some g := ⟨_, List.getElem?_eq_getElem (by rw [Hrl.out]; omega)⟩
      have hkr := Hrf.out gg (List.mem_of_getElem? hg)
      obtain ⟨hl2, g, cur, eav, hbg, hrw, hnc, hcm, hsz, hsep, hrow⟩ := opsN_open hO (by omega)
      subst eav
      obtain ⟨a1, n1, c1, a2, n2, c2, x0, x1, x2, x3, x4, x5, x6⟩ := hrow i gg (by rw [invF_get (by rw [Hrl.out]; omega), if_neg (by omega)]; exact hg)
      have ce : ∀ (k : Nat) (v : Value), cur[k]? = some v → wr.cell? ⟨g, k, none⟩ = some v := fun k v e => by rw [cell_of_row wr g k cur _ (0, 0) hrw]; exact e
      have t0 := ce _ _ x0; have t1 := ce _ _ x1; have t2 := ce _ _ x2; have t3 := ce _ _ x3; have t4 := ce _ _ x4; have t5 := ce _ _ x5
      have gOb : g < Ob := by have := (Hlt2.out g rfl).2; exact this
      have gH : H + 3 ≤ g := (Hlt2.out g rfl).1
      obtain ⟨U, hU⟩ : ∃ U, wr.alloc (.cells #[.int .i64 gg.kind, .int .i64 gg.k, .slice a1 n1 c1, .int .i64 gg.q, .int .i64 gg.bit, .slice a2 n2 c2] 43) = U := ⟨_, rfl⟩
      obtain ⟨Bx, hBx⟩ : ∃ x, wr.heap.size = x := ⟨_, rfl⟩
      have hEU : Ext wr U := by rw [← hU]; exact ext_al _ _
      have bx : OpBx U Bx gg.kind gg.k a1 n1 c1 gg.q gg.bit a2 n2 c2 := by rw [← hU, ← hBx]; exact opbx_new wr _ _ a1 n1 c1 _ _ a2 n2 c2
      have hrwU : U.heap[g]? = some (.cells cur 43 (0, 0)) := (hEU.block g (by have := (Array.getElem?_eq_some_iff.1 hrw).1; exact this)).trans hrw
      have hrowU : RowF U base (fun p => cur[p]?) (invF rops i) := fun t gx hgx => by
        obtain ⟨z1, z2, z3, z4, z5, z6, w0, w1, w2, w3, w4, w5, w6⟩ := hrow t gx hgx
        exact ⟨z1, z2, z3, z4, z5, z6, w0, w1, w2, w3, w4, w5, w6.ext hEU⟩
      have HOp := Lib.hid (fun wx => opposite_any gg.k wx hkr.1 (by omega))
      obtain ⟨ok, hok⟩ : ∃ x, opp gg.k = x := ⟨_, rfl⟩
      rw [hok] at HOp
      have hOs := only1 U.drew g (i * 6 + 1) (.int .i64 ok)
      have hki := only_ints (w := U.drew) (w' := U.drew.setCell ⟨g, i * 6 + 1, none⟩ (.int .i64 ok)) hrwU (by decide) hOs
      have hrz := rowF_undo (w' := U.drew.setCell ⟨g, i * 6 + 1, none⟩ (.int .i64 ok)) Hrl.out (by omega) (by rw [hsz]; omega) hrowU hg (fun _ _ _ _ _ _ _ ho => (ho.ext (cdrew (Ext.refl U))).keep hki)
      rw [hok] at hrz
      have hwz : (U.drew.setCell ⟨g, i * 6 + 1, none⟩ (.int .i64 ok)).heap[g]? = some (.cells (cur.setIfInBounds (i * 6 + 1) (.int .i64 ok)) 43 (0, 0)) := row_put (W := U.drew) hrwU rfl
      have HOz := Lib.hid (opsN_close (base := base) (n := n) (c := cv) (by rw [invF_len]; exact Hrl.out) hbg hwz hnc hcm (by simp [hsz]) (sepF_int hsep) hrz)
      have HRz := Lib.hid (show CiB (U.drew.setCell ⟨g, i * 6 + 1, none⟩ (.int .i64 ok)) (H + 1) 0 0 none 0 0 from ⟨(hOs.block _ (by omega)).trans (bR.ext hEU).drew.row⟩)
      have HFz := Lib.hid (show FtB (U.drew.setCell ⟨g, i * 6 + 1, none⟩ (.int .i64 ok)) (H + 2) 0 0 from ⟨(hOs.block _ (by omega)).trans (bF.ext hEU).drew.row⟩)
      have HBz := Lib.hid (show CiB (U.drew.setCell ⟨g, i * 6 + 1, none⟩ (.int .i64 ok)) Ob qb bi (some ⟨g, 0, none⟩) n cv from ⟨(hOs.block _ (by omega)).trans (bO.ext hEU).drew.row⟩)
      have HXz := Lib.hid (cput (o := i * 6 + 1) (cdrew (hX.trans hEU)) (show w.heap.size ≤ g by omega) (.int .i64 ok))
      have Hsz := Lib.hid (show H + 3 ≤ (U.drew.setCell ⟨g, i * 6 + 1, none⟩ (.int .i64 ok)).heap.size by simp; exact Nat.le_trans hs3 hEU.size)
      have Hso := Lib.hid (show Ob < (U.drew.setCell ⟨g, i * 6 + 1, none⟩ (.int .i64 ok)).heap.size by simp; exact Nat.lt_of_lt_of_le hsO hEU.size)
      have v2 := (bO.ext hEU).x2; have e1 := bx.x1
      have rc1 : U.drew.cell? ⟨g, i * 6 + 1, none⟩ = some (.int .i64 gg.k) := by
        have : U.cell? ⟨g, i * 6 + 1, none⟩ = some (.int .i64 gg.k) := cell_ext t1 hEU
        exact this
      have rf1 : U.drew.frozen? ⟨g, i * 6 + 1, none⟩ = false := frozen_of_row U.drew g _ _ _ hrwU
      have HU := Lib.hid hU
      obtain ⟨kd, kk', ctl, qq, bb, cnd⟩ := gg
      simp only at t0 t1 t3 t4 HOp e1 rc1 HU
      have nOx : Ob ≠ Bx := by omega
      clear hsep hrz hwz hki hOs hrowU hrwU hEU hU bx ce hrow hrw x0 x1 x2 x3 x4 x5 x6 hkr hg hok bR bF bO hO hX hl2 hnc hcm hsz hbg
      go_upto_region 9 with fail
      rw [HU.out]
      clear t0 t1 t2 t3 t4 t5
      refine wp_region_K 8 (fun w' => w'.cell? ⟨Ob, 2, none⟩ = some (.slice (some ⟨g, 0, none⟩) n cv) ∧ w'.cell? ⟨Bx, 1, none⟩ = some (.int .i64 kk')) (by kernel_rfl) ?_
      show anyK _ _ _ _ _ _ 9 #[false, false, false, false, false, false, false, false, false] _ _
      have hHeld : U.drew.cell? ⟨Ob, 2, none⟩ = some (.slice (some ⟨g, 0, none⟩) n cv) ∧ U.drew.cell? ⟨Bx, 1, none⟩ = some (.int .i64 kk') := ⟨v2, e1⟩
      refine anyK_take (i := 0) (v := ?_) rfl (by kernel_rfl) (by kernel_rfl) (by kernel_rfl) (N := 9) (by kernel_rfl) (by kernel_rfl) (by kernel_rfl) (fun _ _ _ h => h) (Or.inl ⟨by rfl, ?_⟩) hHeld ?_
      rotate_left 1
      · intro w hSw
        go_simp
        try with_reducible rfl
      show anyK _ _ _ _ _ _ _ _ (Act.put _ (some 30) _) _
      simp only [Act.put, List.setIfInBounds_toArray, List.set_cons_zero, List.set_cons_succ]
      refine anyK_take (i := 1) (v := ?_) rfl (by kernel_rfl) (by kernel_rfl) (by kernel_rfl) (N := 9) (by kernel_rfl) (by kernel_rfl) (by kernel_rfl) (fun _ _ _ h => h) (Or.inl ⟨by rfl, ?_⟩) hHeld ?_
      rotate_left 1
      · intro w hSw
        go_simp
        try with_reducible rfl
      show anyK _ _ _ _ _ _ _ _ (Act.put _ (some 31) _) _
      simp only [Act.put, List.setIfInBounds_toArray, List.set_cons_zero, List.set_cons_succ]
      refine anyK_take (i := 2) (v := ?_) rfl (by kernel_rfl) (by kernel_rfl) (by kernel_rfl) (N := 9) (by kernel_rfl) (by kernel_rfl) (by kernel_rfl) (fun _ _ _ h => h) (Or.inl ⟨by rfl, ?_⟩) hHeld ?_
      rotate_left 1
      · intro w hSw
        go_simp
        try with_reducible rfl
      show anyK _ _ _ _ _ _ _ _ (Act.put _ (some 32) _) _
      simp only [Act.put, List.setIfInBounds_toArray, List.set_cons_zero, List.set_cons_succ]
      refine anyK_take (i := 3) (v := ?_) rfl (by kernel_rfl) (by kernel_rfl) (by kernel_rfl) (N := 9) (by kernel_rfl) (by kernel_rfl) (by kernel_rfl) (fun _ _ _ h => h) (Or.inl ⟨by rfl, ?_⟩) hHeld ?_
      rotate_left 1
      · intro w hSw
        go_simp
        try with_reducible rfl
      show anyK _ _ _ _ _ _ _ _ (Act.put _ (some 33) _) _
      simp only [Act.put, List.setIfInBounds_toArray, List.set_cons_zero, List.set_cons_succ]
      refine anyK_take (i := 4) (v := ?_) rfl (by kernel_rfl) (by kernel_rfl) (by kernel_rfl) (N := 9) (by kernel_rfl) (by kernel_rfl) (by kernel_rfl) (fun _ _ _ h => h) (Or.inl ⟨by rfl, ?_⟩) hHeld ?_
      rotate_left 1
      · intro w hSw
        go_simp
        try with_reducible rfl
      show anyK _ _ _ _ _ _ _ _ (Act.put _ (some 34) _) _
      simp only [Act.put, List.setIfInBounds_toArray, List.set_cons_zero, List.set_cons_succ]
      clear hHeld
      refine anyK_one (i := 5) (by kernel_rfl) rfl (fun Kk hKk => ?_)
      go_simp
      (go_at_call 26; refine (HOp.out _).mono ?_; rintro e w4 ⟨rfl, rfl⟩)
      go_wp2_with fail
      refine hKk.out _ _ (fun _ => ⟨v2, e1⟩) ?_
      clear hKk Kk
      simp only [List.setIfInBounds_toArray, List.set_cons_zero, List.set_cons_succ]
      have hHeld : U.drew.cell? ⟨Ob, 2, none⟩ = some (.slice (some ⟨g, 0, none⟩) n cv) ∧ U.drew.cell? ⟨Bx, 1, none⟩ = some (.int .i64 kk') := ⟨v2, e1⟩
      refine anyK_take (i := 6) (v := ?_) rfl (by kernel_rfl) (by kernel_rfl) (by kernel_rfl) (N := 9) (by kernel_rfl) (by kernel_rfl) (by kernel_rfl) (fun _ _ _ h => h) (Or.inl ⟨by rfl, ?_⟩) hHeld ?_
      rotate_left 1
      · intro w hSw
        go_simp
        try with_reducible rfl
      show anyK _ _ _ _ _ _ _ _ (Act.put _ (some 36) _) _
      simp only [Act.put, List.setIfInBounds_toArray, List.set_cons_zero, List.set_cons_succ]
      refine anyK_take (i := 7) (v := ?_) rfl (by kernel_rfl) (by kernel_rfl) (by kernel_rfl) (N := 9) (by kernel_rfl) (by kernel_rfl) (by kernel_rfl) (fun _ _ _ h => h) (Or.inl ⟨by rfl, ?_⟩) hHeld ?_
      rotate_left 1
      · intro w hSw
        go_simp
        try with_reducible rfl
      show anyK _ _ _ _ _ _ _ _ (Act.put _ (some 37) _) _
      simp only [Act.put, List.setIfInBounds_toArray, List.set_cons_zero, List.set_cons_succ]
      clear hHeld
      refine anyK_one (i := 8) (by kernel_rfl) rfl (fun Kk hKk => ?_)
      refine stepK_storeN rfl rfl _ _ rfl g (i * 6 + 1) ok (.int .i64 kk') rfl rfl rc1 rf1 ?_
      refine hKk.out _ _ (fun h => Bool.noConfusion (show true = false from h)) ?_
      clear hKk Kk
      simp only [List.setIfInBounds_toArray, List.set_cons_zero, List.set_cons_succ]
      refine anyK_done (by kernel_rfl) ?_ _
      generalize U.drew.setCell ⟨g, i * 6 + 1, none⟩ (.int .i64 ok) = w8 at *
      go_wp2_with fail
      go_roundg (n - (i + 1))
      case measure => omega
      case rel => exact ⟨i + 1, by go_num, by omega, rfl, HRz.out, HFz.out, HBz.out, HOz.out, HXz.out, Hsz.out, Hso.out⟩

end Go.Proofs.YtapolidgocfbjaaDoor
namespace Go.Proofs.YtapolidgocfbjaaDoor
open Go.RowKit

/-- A circuit and a fault are answered, the circuit in memory that is not older than w. -/
def Ans (w w' : World) (e : Ending) (r : (Int × Int) × Gci) : Prop :=
  ∃ (a : Option Addr) (m c : Nat), e = .returned (.tuple #[.agg #[.int .i64 r.2.qubits, .int .i64 r.2.bits, .slice a m c], .agg #[.int .i64 r.1.1, .int .i64 r.1.2]]) ∧ OpsN w' w.heap.size (.slice a m c) r.2.ops
/-- No circuit. -/
def noC : Gci := ⟨0, 0, []⟩
theorem Ans.none {w w' : World} {e : Ending} {F : Int × Int} (h : e = .returned (.tuple #[.agg #[.int .i64 0, .int .i64 0, .slice none 0 0], .agg #[.int .i64 F.1, .int .i64 F.2]])) : Ans w w' e (F, noC) := ⟨.none, 0, 0, h, OpsN.nil _ _⟩

def invM (c : Gci) : (Int × Int) × Gci := if (pur c).1 ≠ 0 then (pur c, noC) else ((0, 0), ⟨c.qubits, c.bits, invO c.ops⟩)
section
variable (c : Gci) (ao : Option Addr) (n cp : Nat) (w : World) (h : OpsAt w ao n c.ops) (hn : n ≤ cp) (hcp : cp ≤ 9223372036854775807)
include h hn hcp
theorem Inverse_U (hS : Shp w) : Calls Tryd.prog 7 #[.agg #[.int .i64 c.qubits, .int .i64 c.bits, .slice ao n cp]] w fun e w' => Ans w w' e (invM c) ∧ Ext w w' := by
  unfold invM
  by_cases hp : (pur c).1 ≠ 0
  · rw [if_pos hp]
    exact (Inverse_no c ao n cp w h hn hcp hS hp).mono fun e w' h => ⟨Ans.none h.1, h.2⟩
  · rw [if_neg hp]
    refine (Inverse_N c ao n cp w h hn hcp hS (by omega)).mono ?_
    rintro e w' ⟨⟨a', c', rfl, hO⟩, hx⟩
    exact ⟨⟨a', n, c', rfl, hO.down (by omega)⟩, hx⟩
theorem RInverse_U : Calls Tryd.prog 8 #[.agg #[.int .i64 c.qubits, .int .i64 c.bits, .slice ao n cp]] w fun e w' => Ans w w' e (invM c) ∧ Ext w w' := by
  unfold invM
  by_cases hp : (pur c).1 ≠ 0
  · rw [if_pos hp]
    exact (RInverse_no c ao n cp w h hn hcp hp).mono fun e w' h => ⟨Ans.none h.1, h.2⟩
  · rw [if_neg hp]
    refine (RInverse_yes c ao n cp w h hn hcp (by omega)).mono ?_
    rintro e w' ⟨⟨a', c', rfl, hO⟩, hx⟩
    exact ⟨⟨a', n, c', rfl, hO⟩, hx⟩
end
end Go.Proofs.YtapolidgocfbjaaDoor
