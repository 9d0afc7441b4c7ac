/-
  The program's Inverse. The reference's Parse of any text that is not too long. The program's Inverse: the walk. Inverse and Power of a circuit that is not pure. The program's Power of a pure circuit: rows that hold copies of operations whose lists lie elsewhere. The program's Power of a pure circuit: the walk. Circuits undone, in plain lists: twice undone is itself; what is pure stays so. The reference's Inverse.
-/
import Derived.Test.YtapolidgocfbjaaDoorProg
import Derived.Test.YtapolidgocfbjaaDoorRows
import Derived.BigQuiet
import Derived.Deep.AppendLies
import Derived.Deep.Cut
import Derived.Deep.CutRange
import Derived.Deep.LoopGhost
import Derived.Deep.QuietTactic
import Derived.Deep.RegionHeld3
import Derived.Defers
import Derived.Laws.Bits64b
import Derived.Laws.Concat
import Derived.Laws.CopyOwn
import Derived.Laws.IdiomStrings
import Derived.Laws.ResultCell
import Derived.Lib.AppendStr
import Derived.Lib.BitFns
import Derived.Lib.Hide
import Derived.Lib.ItoaMem
import Derived.Lib.ItoaNum
import Derived.Lib.Strings
import Derived.Maps.AppendAt
import Derived.OwnWalk
import Derived.Recover
import Derived.Shelf.LaysM
import Derived.Shelf.Strconv.Itoa0
import Derived.Shelf.Strconv.Itoa1
import Derived.Shelf.Strconv.Itoa2
import Derived.Shelf.Strconv.Itoa3
import Derived.Shelf.Strings.Builder1
import Derived.Shelf.Strings.BuilderF
import Derived.Shelf.Strings.BuilderK
import Derived.WalkKit
import Derived.WalkLawsBesides
import Derived.WalkSpells
import Derived.Test.YtapolidgocfbjaaDoorS00Ce
import Derived.Test.YtapolidgocfbjaaDoorS01Cj
import Derived.Test.YtapolidgocfbjaaDoorShelf
import Derived.Test.YtapolidgocfbjaaDoorS03Cq
import Derived.Test.YtapolidgocfbjaaDoorS04Jc
import Derived.Test.YtapolidgocfbjaaDoorS05Gb
namespace Go.Proofs.YtapolidgocfbjaaDoor
open Go.RowKit

def opp (k : Int) : Int := (16 - k).tmod 16
/-- An operation undone. -/
def undoO (g : Gop) : Gop := { g with k := opp g.k }
/-- Operations undone. -/
def invO (ops : List Gop) : List Gop := ops.reverse.map undoO
/-- The first i of them undone, in place. -/
def invF (ops : List Gop) (i : Nat) : List Gop := (ops.take i).map undoO ++ ops.drop i
theorem invF_len (ops : List Gop) (i : Nat) : (invF ops i).length = ops.length := by
  unfold invF
  simp only [List.length_append, List.length_map, List.length_take, List.length_drop]
  omega
theorem invF_get {ops : List Gop} {i t : Nat} (ht : t < ops.length) : (invF ops i)[t]? = if t < i then ops[t]?.map undoO else ops[t]? := by
  unfold invF
  by_cases h : t < i
  · rw [if_pos h, List.getElem?_append_left (by rw [List.length_map, List.length_take]; omega), List.getElem?_map, List.getElem?_take, if_pos h]
  · rw [if_neg h, List.getElem?_append_right (by rw [List.length_map, List.length_take]; omega), List.length_map, List.length_take, List.getElem?_drop]
    congr 1; omega
theorem invF_zero (ops : List Gop) : invF ops 0 = ops := by simp [invF]
theorem invF_all {ops : List Gop} {i : Nat} (h : ops.length ≤ i) : invF ops i = ops.map undoO := by
  unfold invF
  rw [List.take_of_length_le h, List.drop_eq_nil_of_le h, List.append_nil]
theorem pur_zero {c : Gci} (h : (pur c).1 = 0) : (chk c).1 = 0 ∧ pur c = (0, 0) := by
  have key : ∀ (l : List Gop) (i : Nat), (purF i l).1 = 0 → purF i l = (0, 0) := by
    intro l
    induction l with
    | nil => intro i _; rfl
    | cons o r ih =>
      intro i h
      rw [purF] at h ⊢
      by_cases hc : 5 ≤ o.kind ∨ 0 < o.cnd.length
      · rw [if_pos hc] at h; exact absurd h (show ¬ (15 : Int) = 0 by decide)
      · rw [if_neg hc] at h ⊢; exact ih _ h
  unfold pur at h ⊢
  by_cases hc : (chk c).1 ≠ 0
  · rw [if_pos hc] at h; exact absurd h hc
  · rw [if_neg hc] at h ⊢; exact ⟨by omega, key _ _ h⟩

theorem opposite_any (k : Int) (w : World) (h0 : 0 ≤ k) (h1 : k ≤ 16) : Calls Tryd.prog 26 #[.int .i64 k] w fun e w' => e = .returned (.int .i64 (opp k)) ∧ w' = w := by
  obtain ⟨r, hr⟩ : ∃ r, opp k = r := ⟨_, rfl⟩
  rw [hr]
  unfold opp at hr
  obtain ⟨d, hd⟩ : ∃ d, 16 - k = d := ⟨_, rfl⟩
  rw [hd] at hr
  have w1 : IntKind.i64.wrap (16 - k) = d := by rw [IntKind.wrap_i64]; omega
  have hdr : d.tmod 16 = r := hr
  have w2 : IntKind.i64.wrap (d.tmod 16) = r := by
    rw [hdr, IntKind.wrap_i64]
    have : 0 ≤ r ∧ r < 16 := by rw [← hr]; exact ⟨Int.tmod_nonneg _ (by omega), Int.tmod_lt_of_pos _ (by omega)⟩
    omega
  clear hr hd
  go_enter Tryd.func26, Tryd.ntmps26
  go_wp2_with fail
  go_ret
  exact ⟨rfl, rfl⟩

theorem stepK_storeN {ops : Array Oper} {o : Oper} {a : Act} {K : Act → World → Prop} {Q : Exit → Act → World → Prop} {E : Prop} {w : World} (hgd : o.guard = none) (hd : o.dst = none) (p x : Operand)
    (ho : o.op = .store 3 p x) (b off : Nat) (z : Int) (u : Value) (hp : a.eval p = .pointer (some ⟨b, off, none⟩)) (hx : a.eval x = .int .i64 z)
    (hcell : w.cell? ⟨b, off, none⟩ = some u) (hfz : w.frozen? ⟨b, off, none⟩ = false) (h : K a (w.setCell ⟨b, off, none⟩ (.int .i64 z))) :
    if Region.wanted o (yielded ops a.tmps) = true then Oper.wp Tryd.prog o a w K Q else E := by
  have hw : Region.wanted o (yielded ops a.tmps) = true := by simp [Region.wanted, hgd]
  rw [if_pos hw]
  obtain ⟨od, oo, ot, opp, oa, og⟩ := o
  simp only at ho hd
  subst ho hd
  have HH := Lib.hid h
  clear h
  unfold Oper.wp execOp
  simp only [hp, hx]
  go_simp
  exact HH.out

/-- An operation of a row is undone. -/
theorem rowOf_undo {w w' : World} {cs : Array Value} {ops : List Gop} {n i : Nat} {gi : Gop} (hl : ops.length = n) (hi : i < n) (hsz : n * 6 ≤ cs.size) (h : RowOf w cs (invF ops i)) (hgi : ops[i]? = some gi)
    (hk : ∀ g a1 n1 c1 a2 n2 c2, OpO w g a1 n1 c1 a2 n2 c2 → OpO w' g a1 n1 c1 a2 n2 c2) : RowOf w' (cs.setIfInBounds (i * 6 + 1) (.int .i64 (opp gi.k))) (invF ops (i + 1)) := by
  intro t g hg
  have ht : t < n := by have := (List.getElem?_eq_some_iff.1 hg).1; rw [invF_len, hl] at this; exact this
  rw [invF_get (by omega)] at hg
  by_cases e1 : t = i
  · subst e1
    rw [if_pos (by omega), hgi] at hg
    injection hg with hg
    subst hg
    obtain ⟨x1, x2, x3, x4, x5, x6, y0, y1, y2, y3, y4, y5, y6⟩ := h t gi (by rw [invF_get (by omega), if_neg (by omega)]; exact hgi)
    have ho := hk _ _ _ _ _ _ _ y6
    refine ⟨x1, x2, x3, x4, x5, x6, ?_, ?_, ?_, ?_, ?_, ?_, ⟨⟨ho.l.i1, ho.l.h1, ho.l.m1, ho.l.i2, ho.l.h2, ho.l.m2⟩, ho.t1, ho.t2⟩⟩
    · rw [Array.getElem?_setIfInBounds, if_neg (by omega)]; exact y0
    · rw [Array.getElem?_setIfInBounds, if_pos rfl, if_pos (by omega)]; rfl
    · rw [Array.getElem?_setIfInBounds, if_neg (by omega)]; exact y2
    · rw [Array.getElem?_setIfInBounds, if_neg (by omega)]; exact y3
    · rw [Array.getElem?_setIfInBounds, if_neg (by omega)]; exact y4
    · rw [Array.getElem?_setIfInBounds, if_neg (by omega)]; exact y5
  · have hg' : (invF ops i)[t]? = some g := by
      rw [invF_get (by omega)]
      by_cases e3 : t < i
      · rw [if_pos e3]; rw [if_pos (by omega)] at hg; exact hg
      · rw [if_neg e3]; rw [if_neg (by omega)] at hg; exact hg
    obtain ⟨x1, x2, x3, x4, x5, x6, y0, y1, y2, y3, y4, y5, y6⟩ := h t g hg'
    refine ⟨x1, x2, x3, x4, x5, x6, ?_, ?_, ?_, ?_, ?_, ?_, hk _ _ _ _ _ _ _ y6⟩
    · rw [Array.getElem?_setIfInBounds, if_neg (by omega)]; exact y0
    · rw [Array.getElem?_setIfInBounds, if_neg (by omega)]; exact y1
    · rw [Array.getElem?_setIfInBounds, if_neg (by omega)]; exact y2
    · rw [Array.getElem?_setIfInBounds, if_neg (by omega)]; exact y3
    · rw [Array.getElem?_setIfInBounds, if_neg (by omega)]; exact y4
    · rw [Array.getElem?_setIfInBounds, if_neg (by omega)]; exact y5

end Go.Proofs.YtapolidgocfbjaaDoor
namespace Go.Proofs.YtapolidgocfbjaaDoor
open Go.RowKit

/-- Operations whose block is younger stand. -/
theorem putCF_ops {W : World} {base g gf : Nat} {v : Value} {ops : List Gop} {q0 b0 : Int} {a0 : Option Addr} {n0 c0 : Nat} {u0 v0 : Int} (h : OpsO W base v ops) (hc : CiB W g q0 b0 a0 n0 c0) (hf : FtB W gf u0 v0) (hg : g < base) (hgf : gf < base) (hne : g ≠ gf) (q b : Int) (a : Option Addr) (n c : Nat) (x y : Int) :
    OpsO (putCF W g gf q b a n c x y) base v ops := by
  have hO3 : Only g W (((W.setCell ⟨g, 0, none⟩ (.int .i64 q)).setCell ⟨g, 1, none⟩ (.int .i64 b)).setCell ⟨g, 2, none⟩ (.slice a n c)) := (((Only.refl _ _).setCell _ _).setCell _ _).setCell _ _
  have h3 := h.only hc.row (by decide) hO3 (by simp) hg
  have hf3 : FtB (((W.setCell ⟨g, 0, none⟩ (.int .i64 q)).setCell ⟨g, 1, none⟩ (.int .i64 b)).setCell ⟨g, 2, none⟩ (.slice a n c)) gf u0 v0 := ⟨row_far (row_far (row_far hf.row (by omega)) (by omega)) (by omega)⟩
  unfold putCF
  exact h3.only hf3.row (by decide) (((Only.refl _ _).setCell _ _).setCell _ _) (by simp) hgf

end Go.Proofs.YtapolidgocfbjaaDoor
namespace Go.Proofs.YtapolidgocfbjaaDoor
open Go.RowKit

theorem opk_range {g : Gop} {n b : Int} (h : opCode g n b = 0) : 0 ≤ g.k ∧ g.k ≤ 15 := by
  unfold opCode at h
  split at h
  · omega
  · split at h
    · omega
    · next hk =>
      unfold fitsB at hk
      split at hk
      · unfold below at hk
        simp at hk
        omega
      · simp at hk
        omega

theorem opsO_base {w : World} {base base' : Nat} {v : Value} {ops : List Gop} (h : OpsO w base v ops) (hb : base' ≤ base) : OpsO w base' v ops := by
  obtain ⟨xs, h1, h2⟩ := h
  refine ⟨xs, ⟨h1.1, ?_⟩, h2⟩
  rcases h1.2 with h | ⟨g, cap, cur, hv, hbg, rest⟩
  · exact Or.inl h
  · exact Or.inr ⟨g, cap, cur, hv, by omega, rest⟩

set_option maxHeartbeats 8000000 in
set_option maxRecDepth 100000 in
theorem Inverse_yes (c : Gci) (ao : Option Addr) (n cp : Nat) (w : World) (h : OpsAt w ao n c.ops) (hn : n ≤ cp) (hcp : cp ≤ 9223372036854775807) (hS : Shp w) (hp : (pur c).1 = 0) :
    Calls Tryd.prog 7 #[.agg #[.int .i64 c.qubits, .int .i64 c.bits, .slice ao n cp]] w fun e w' => (∃ (a' : Option Addr) (c' : Nat), e = .returned (.tuple #[.agg #[.int .i64 c.qubits, .int .i64 c.bits, .slice a' n c'], .agg #[.int .i64 0, .int .i64 0]]) ∧ n ≤ c' ∧ c' ≤ maxLen ∧ OpsO w' (w.heap.size + 3) (.slice a' n c') (invO c.ops)) ∧ Ext w w' := by
  obtain ⟨hck, hpz⟩ := pur_zero hp
  obtain ⟨hz, hq1, hq2, hb1, hb2, hl4, hop⟩ := chk_zero hck
  have hfit : ∀ g ∈ c.ops, (g.ctl.length ≤ 1000 ∧ g.cnd.length ≤ 1000) ∧ 0 ≤ g.k ∧ g.k ≤ 15 := fun g hg => by
    have f := prFit_of_code hq2 hb1 hb2 (hop g hg)
    exact ⟨⟨Nat.le_trans f.few (by decide), Nat.le_trans f.cfew (by decide)⟩, opk_range (hop g hg)⟩
  have hl : c.ops.length = n := h.1
  rw [hl] at hl4
  obtain ⟨qb, bi, ops⟩ := c
  simp only at hfit hl h ⊢
  obtain ⟨H, hH⟩ : ∃ H, w.heap.size = H := ⟨_, rfl⟩
  obtain ⟨A1, hA1⟩ : ∃ A1, w.alloc (.cells #[.int .i64 qb, .int .i64 bi, .slice ao n cp] 24) = A1 := ⟨_, rfl⟩
  obtain ⟨A2, hA2⟩ : ∃ A2, A1.alloc (.cells #[.int .i64 0, .int .i64 0, .slice none 0 0] 24) = A2 := ⟨_, rfl⟩
  obtain ⟨A3, hA3⟩ : ∃ A3, A2.alloc (.cells #[.int .i64 0, .int .i64 0] 28) = A3 := ⟨_, rfl⟩
  have s1 : A1.heap.size = H + 1 := by rw [← hA1, ← hH]; simp
  have s2 : A2.heap.size = H + 2 := by rw [← hA2]; simp; omega
  have s3 : A3.heap.size = H + 3 := by rw [← hA3]; simp; omega
  have x1 : Ext w A1 := by rw [← hA1]; exact ext_al _ _
  have x2 : Ext A1 A2 := by rw [← hA2]; exact ext_al _ _
  have x3 : Ext A2 A3 := by rw [← hA3]; exact ext_al _ _
  have bC : CiB A3 H qb bi ao n cp := by
    have : CiB A1 H qb bi ao n cp := by rw [← hA1, ← hH]; exact ⟨heap_alloc_new w _⟩
    exact (this.ext x2).ext x3
  have bR : CiB A3 (H + 1) 0 0 none 0 0 := by
    have : CiB A2 (H + 1) 0 0 none 0 0 := by rw [← hA2, ← s1]; exact ⟨heap_alloc_new A1 _⟩
    exact this.ext x3
  have bF : FtB A3 (H + 2) 0 0 := by rw [← hA3, ← s2]; exact ⟨heap_alloc_new A2 _⟩
  have E0 : Ext w A3 := (x1.trans x2).trans x3
  have hA : ((w.alloc (.cells #[.int .i64 qb, .int .i64 bi, .slice ao n cp] 24)).alloc (.cells #[.int .i64 0, .int .i64 0, .slice none 0 0] 24)).alloc (.cells #[.int .i64 0, .int .i64 0] 28) = A3 := by rw [hA1, hA2, hA3]
  have HK := Lib.hid (Pure_any ⟨qb, bi, ops⟩ ao n cp A3 (h.ext E0) hn hcp (hS.ext E0))
  rw [hpz] at HK
  simp only at HK
  have m0 := bC.x0; have m1 := bC.x1; have m2 := bC.x2
  rw [← hA] at m0 m1 m2
  have HA := Lib.hid hA; have HE0 := Lib.hid E0; have HC := Lib.hid bC; have HR := Lib.hid bR; have HFt := Lib.hid bF
  have Hops := Lib.hid (h.ext E0); have Hfit := Lib.hid hfit; have Hl := Lib.hid hl; have Hs3 := Lib.hid s3; have HhH := Lib.hid hH
  clear h hS hpz E0 bC bR bF x1 x2 x3 s1 s2 s3 hA1 hA2 hA3 hA hfit hl hck hz hq1 hq2 hb1 hb2 hop hp
  go_enter Tryd.func7, Tryd.ntmps7
  go_wp2_with fail
  rw [HA.out]
  refine HK.out.mono ?_
  rintro e w1 ⟨rfl, hx1⟩
  have Ef := ext_al w1 (.cells #[.int .i64 0, .int .i64 0] 28)
  have bf1 : FtB (w1.alloc (.cells #[.int .i64 0, .int .i64 0] 28)) w1.heap.size 0 0 := ⟨heap_alloc_new w1 _⟩
  have q0 := bf1.x0; have q1 := bf1.x1
  have hX := hx1.trans Ef
  have bC1 := HC.out.ext hX
  have y0 := bC1.x0; have y1 := bC1.x1; have y2 := bC1.x2
  have HR1 := Lib.hid (HR.out.ext hX); have HF1 := Lib.hid (HFt.out.ext hX); have HE1 := Lib.hid (HE0.out.trans hX); have Hops1 := Lib.hid (Hops.out.ext hX)
  have Hsz1 := Lib.hid (show H + 3 ≤ (w1.alloc (.cells #[.int .i64 0, .int .i64 0] 28)).heap.size by rw [← Hs3.out]; exact hX.size)
  clear hx1 Ef bf1 hX bC1 HK HC HR HFt HE0 Hops m0 m1 m2
  go_wp2_with fail
  generalize w1.alloc (.cells #[.int .i64 0, .int .i64 0] 28) = W1 at *
  refine (with_any qb bi ao n cp ao n cp ops W1 Hops1.out (by omega) (fun g hg => (Hfit.out g hg).1)).mono ?_
  rintro e w2 ⟨⟨av, cv, rfl, hcv1, hcv2, hO2⟩, hx2⟩
  obtain ⟨Ob, hOb⟩ : ∃ x, w2.heap.size = x := ⟨_, rfl⟩
  have Eo := ext_al w2 (.cells #[.int .i64 qb, .int .i64 bi, .slice av n cv] 24)
  have bO : CiB (w2.alloc (.cells #[.int .i64 qb, .int .i64 bi, .slice av n cv] 24)) Ob qb bi av n cv := by rw [← hOb]; exact ⟨heap_alloc_new w2 _⟩
  have z2 := bO.x2
  have hlt2 : ∀ k, (Value.slice av n cv).ownBlock = some k → H + 3 ≤ k ∧ k < Ob := by
    obtain ⟨xs, ho, _⟩ := hO2
    intro k hk
    have h1 := own_lt ho k hk
    have h2 := Hsz1.out
    omega
  have HOo := Lib.hid (hO2.ext Eo); have HbO := Lib.hid bO; have HR2 := Lib.hid (HR1.out.ext (hx2.trans Eo)); have HF2 := Lib.hid (HF1.out.ext (hx2.trans Eo)); have HE2 := Lib.hid (HE1.out.trans (hx2.trans Eo)); have Hlt2 := Lib.hid hlt2
  have Hc1 := Lib.hid hcv1; have Hc2 := Lib.hid hcv2
  have Hb3 := Lib.hid (show H + 3 ≤ W1.heap.size + 3 by have := Hsz1.out; omega)
  clear hO2 hx2 Eo bO hlt2 hcv1 hcv2 HR1 HF1 HE1 Hops1 y0 y1 y2 q0 q1
  go_wp2_with fail
  generalize w2.alloc (.cells #[.int .i64 qb, .int .i64 bi, .slice av n cv] 24) = W2 at *
  refine (reverse_any (W1.heap.size + 3) av n cv ops W2 HOo.out (by omega)).mono ?_
  rintro e w3 ⟨rfl, hO3, hrv⟩
  have bO3 := HbO.out.rvs hrv (fun e => by have := (Hlt2.out _ e).2; omega)
  have y2 := bO3.x2
  have HR3 := Lib.hid (HR2.out.rvs hrv (fun e => by have := (Hlt2.out _ e).1; omega)); have HF3 := Lib.hid (HF2.out.rvs hrv (fun e => by have := (Hlt2.out _ e).1; omega)); have HE3 := Lib.hid (hrv.ext HE2.out (fun i e => by have := (Hlt2.out _ e).1; have := HhH.out; omega))
  have HbO3 := Lib.hid bO3; have HO3 := Lib.hid hO3
  clear hrv bO3 hO3 HOo HbO HR2 HF2 HE2 z2
  go_wp2_with fail
  obtain ⟨rops, hrops⟩ : ∃ x, ops.reverse = x := ⟨_, rfl⟩
  have Hrl := Lib.hid (show rops.length = n by rw [← hrops, List.length_reverse]; exact Hl.out)
  have Hrf := Lib.hid (show ∀ g ∈ rops, 0 ≤ g.k ∧ g.k ≤ 15 from fun g hg => (Hfit.out g (by rw [← hrops] at hg; exact List.mem_reverse.1 hg)).2)
  have Hinv := Lib.hid (show invO ops = rops.map undoO by unfold invO; rw [hrops])
  rw [hrops] at HO3
  clear hrops Hfit
  obtain ⟨base, hbase⟩ : ∃ x, W1.heap.size + 3 = x := ⟨_, rfl⟩
  rw [hbase] at HO3 Hb3
  clear hbase
  go_loopg [6, 7, 25] n (fun kk s6 s7 s25 wx => ∃ (i : Nat), s25 = .int .i64 (i : Int) ∧ i ≤ n ∧ n - i = kk ∧ CiB wx (H + 1) 0 0 none 0 0 ∧ FtB wx (H + 2) 0 0 ∧ CiB wx Ob qb bi av n cv ∧ OpsO wx base (.slice av n cv) (invF rops i) ∧ Ext w wx ∧ H + 3 ≤ wx.heap.size ∧ Ob < wx.heap.size)
  case atStart => exact ⟨0, rfl, by omega, by omega, HR3.out, HF3.out, HbO3.out, by rw [invF_zero]; exact HO3.out, HE3.out, by have := HF3.out.lt; omega, HbO3.out.lt⟩
  case round =>
    clear HR3 HF3 HbO3 HO3 HE3 y2
    obtain ⟨i, rfl, hin', hk, bR, bF, bO, hO, hX, hs3, hsO⟩ := hrel
    by_cases hin : i = n
    · have q1 : ¬ (i : Int) < (n : Int) := by omega
      have q1' : decide ((i : Int) < (n : Int)) = false := df q1
      rw [invF_all (by rw [Hrl.out]; omega), ← Hinv.out] at hO
      have y0 := bO.x0; have y1 := bO.x1; have y2 := bO.x2
      have r0 := bR.x0; have r1 := bR.x1; have r2 := bR.x2; have g0 := bR.f 0; have g1 := bR.f 1; have g2 := bR.f 2
      have f0 := bF.x0; have f1 := bF.x1; have k0 := bF.f 0; have k1 := bF.f 1
      have zC := putCF_C bR (show H + 1 ≠ H + 1 + 1 by omega) qb bi av n cv 0 0
      have zF := putCF_F bF (show H + 1 ≠ H + 2 by omega) qb bi av n cv 0 0
      have zO := putCF_ops hO bR bF (show H + 1 < base by have := Hb3.out; omega) (show H + 2 < base by have := Hb3.out; omega) (show H + 1 ≠ H + 2 by omega) qb bi av n cv 0 0
      have zE : Ext w (putCF wr (H + 1) (H + 2) qb bi av n cv 0 0) := putCF_ext hX (show w.heap.size ≤ H + 1 by omega) (show w.heap.size ≤ H + 2 by omega) _ _ _ _ _ _ _
      obtain ⟨Wz, hWz⟩ : ∃ Wz, putCF wr (H + 1) (H + 2) qb bi av n cv 0 0 = Wz := ⟨_, rfl⟩
      rw [show H + 1 + 1 = H + 2 from rfl] at zC
      rw [hWz] at zC zF zO zE
      unfold putCF at hWz
      have HWz := Lib.hid hWz; have HzE := Lib.hid zE; have HzO := Lib.hid zO
      have v0 := zC.x0; have v1 := zC.x1; have v2 := zC.x2; have v3 := zF.x0; have v4 := zF.x1
      clear zC zF zO zE hWz bR bF bO hO hX hin hin' hk hs3 hsO
      go_wp2_with fail
      rw [HWz.out]
      have HH := HhH.out
      exact bodyPost_ret (v := .tuple #[.agg #[.int .i64 qb, .int .i64 bi, .slice av n cv], .agg #[.int .i64 0, .int .i64 0]]) (by simp [results, Tryd.results7, go_sem, v0, v1, v2, v3, v4]) rfl ⟨⟨av, cv, rfl, Hc1.out, Hc2.out, opsO_base HzO.out (by have := Hb3.out; omega)⟩, HzE.out⟩
    · have q1 : (i : Int) < (n : Int) := by omega
      have q1' : decide ((i : Int) < (n : Int)) = true := dt q1
      have p0 : (0 : Int) ≤ (i : Int) := by omega
      obtain ⟨gg, hg⟩ : ∃ g, rops[i]? = some g := ⟨_, List.getElem?_eq_getElem (by rw [Hrl.out]; omega)⟩
      have hkr := Hrf.out gg (List.mem_of_getElem? hg)
      obtain ⟨hl2, g, cur, eav, hbg, hrw, hnc, hcm, hsz, hrow⟩ := opsO_open hO (by omega)
      subst eav
      obtain ⟨a1, n1, c1, a2, n2, c2, x0, x1, x2, x3, x4, x5, x6⟩ := hrow i gg (by rw [invF_get (by rw [Hrl.out]; omega), if_neg (by omega)]; exact hg)
      have ce : ∀ (k : Nat) (v : Value), cur[k]? = some v → wr.cell? ⟨g, k, none⟩ = some v := fun k v e => by rw [cell_of_row wr g k cur _ (0, 0) hrw]; exact e
      have t0 := ce _ _ x0; have t1 := ce _ _ x1; have t2 := ce _ _ x2; have t3 := ce _ _ x3; have t4 := ce _ _ x4; have t5 := ce _ _ x5
      have gOb : g < Ob := by have := (Hlt2.out g rfl).2; exact this
      have gH : H + 3 ≤ g := (Hlt2.out g rfl).1
      obtain ⟨U, hU⟩ : ∃ U, wr.alloc (.cells #[.int .i64 gg.kind, .int .i64 gg.k, .slice a1 n1 c1, .int .i64 gg.q, .int .i64 gg.bit, .slice a2 n2 c2] 43) = U := ⟨_, rfl⟩
      obtain ⟨Bx, hBx⟩ : ∃ x, wr.heap.size = x := ⟨_, rfl⟩
      have hEU : Ext wr U := by rw [← hU]; exact ext_al _ _
      have bx : OpBx U Bx gg.kind gg.k a1 n1 c1 gg.q gg.bit a2 n2 c2 := by rw [← hU, ← hBx]; exact opbx_new wr _ _ a1 n1 c1 _ _ a2 n2 c2
      have hrwU : U.heap[g]? = some (.cells cur 43 (0, 0)) := (hEU.block g (by have := (Array.getElem?_eq_some_iff.1 hrw).1; exact this)).trans hrw
      have hrowU : RowOf U cur (invF rops i) := fun t gx hgx => by
        obtain ⟨z1, z2, z3, z4, z5, z6, w0, w1, w2, w3, w4, w5, w6⟩ := hrow t gx hgx
        exact ⟨z1, z2, z3, z4, z5, z6, w0, w1, w2, w3, w4, w5, w6.ext hEU⟩
      have HOp := Lib.hid (fun wx => opposite_any gg.k wx hkr.1 (by omega))
      obtain ⟨ok, hok⟩ : ∃ x, opp gg.k = x := ⟨_, rfl⟩
      rw [hok] at HOp
      have hOs := only1 U.drew g (i * 6 + 1) (.int .i64 ok)
      have hki := only_ints (w := U.drew) (w' := U.drew.setCell ⟨g, i * 6 + 1, none⟩ (.int .i64 ok)) hrwU (by decide) hOs
      have hrz := rowOf_undo (w' := U.drew.setCell ⟨g, i * 6 + 1, none⟩ (.int .i64 ok)) Hrl.out (by omega) (by rw [hsz]; omega) hrowU hg (fun _ _ _ _ _ _ _ ho => (ho.ext (cdrew (Ext.refl U))).keep (by simp) hki)
      rw [hok] at hrz
      have hwz : (U.drew.setCell ⟨g, i * 6 + 1, none⟩ (.int .i64 ok)).heap[g]? = some (.cells (cur.setIfInBounds (i * 6 + 1) (.int .i64 ok)) 43 (0, 0)) := row_put (W := U.drew) hrwU rfl
      have HOz := Lib.hid (opsO_close (base := base) (n := n) (c := cv) (by rw [invF_len]; exact Hrl.out) hbg hwz hnc hcm (by simp [hsz]) hrz)
      have HRz := Lib.hid (show CiB (U.drew.setCell ⟨g, i * 6 + 1, none⟩ (.int .i64 ok)) (H + 1) 0 0 none 0 0 from ⟨(hOs.block _ (by omega)).trans (bR.ext hEU).drew.row⟩)
      have HFz := Lib.hid (show FtB (U.drew.setCell ⟨g, i * 6 + 1, none⟩ (.int .i64 ok)) (H + 2) 0 0 from ⟨(hOs.block _ (by omega)).trans (bF.ext hEU).drew.row⟩)
      have HBz := Lib.hid (show CiB (U.drew.setCell ⟨g, i * 6 + 1, none⟩ (.int .i64 ok)) Ob qb bi (some ⟨g, 0, none⟩) n cv from ⟨(hOs.block _ (by omega)).trans (bO.ext hEU).drew.row⟩)
      have HXz := Lib.hid (cput (o := i * 6 + 1) (cdrew (hX.trans hEU)) (show w.heap.size ≤ g by omega) (.int .i64 ok))
      have Hsz := Lib.hid (show H + 3 ≤ (U.drew.setCell ⟨g, i * 6 + 1, none⟩ (.int .i64 ok)).heap.size by simp; exact Nat.le_trans hs3 hEU.size)
      have Hso := Lib.hid (show Ob < (U.drew.setCell ⟨g, i * 6 + 1, none⟩ (.int .i64 ok)).heap.size by simp; exact Nat.lt_of_lt_of_le hsO hEU.size)
      have v2 := (bO.ext hEU).x2; have e1 := bx.x1
      have rc1 : U.drew.cell? ⟨g, i * 6 + 1, none⟩ = some (.int .i64 gg.k) := by
        have : U.cell? ⟨g, i * 6 + 1, none⟩ = some (.int .i64 gg.k) := cell_ext t1 hEU
        exact this
      have rf1 : U.drew.frozen? ⟨g, i * 6 + 1, none⟩ = false := frozen_of_row U.drew g _ _ _ hrwU
      have HU := Lib.hid hU
      obtain ⟨kd, kk', ctl, qq, bb, cnd⟩ := gg
      simp only at t0 t1 t3 t4 HOp e1 rc1 HU
      have nOx : Ob ≠ Bx := by omega
      clear hrz hwz hki hOs hrowU hrwU hEU hU bx ce hrow hrw x0 x1 x2 x3 x4 x5 x6 hkr hg hok bR bF bO hO hX hl2 hnc hcm hsz hbg
      go_upto_region 9 with fail
      rw [HU.out]
      clear t0 t1 t2 t3 t4 t5
      refine wp_region_K 8 (fun w' => w'.cell? ⟨Ob, 2, none⟩ = some (.slice (some ⟨g, 0, none⟩) n cv) ∧ w'.cell? ⟨Bx, 1, none⟩ = some (.int .i64 kk')) (by kernel_rfl) ?_
      show anyK _ _ _ _ _ _ 9 #[false, false, false, false, false, false, false, false, false] _ _
      have hHeld : U.drew.cell? ⟨Ob, 2, none⟩ = some (.slice (some ⟨g, 0, none⟩) n cv) ∧ U.drew.cell? ⟨Bx, 1, none⟩ = some (.int .i64 kk') := ⟨v2, e1⟩
      refine anyK_take (i := 0) (v := ?_) rfl (by kernel_rfl) (by kernel_rfl) (by kernel_rfl) (N := 9) (by kernel_rfl) (by kernel_rfl) (by kernel_rfl) (fun _ _ _ h => h) (Or.inl ⟨by rfl, ?_⟩) hHeld ?_
      rotate_left 1
      · intro w hSw
        go_simp
        try with_reducible rfl
      show anyK _ _ _ _ _ _ _ _ (Act.put _ (some 30) _) _
      simp only [Act.put, List.setIfInBounds_toArray, List.set_cons_zero, List.set_cons_succ]
      refine anyK_take (i := 1) (v := ?_) rfl (by kernel_rfl) (by kernel_rfl) (by kernel_rfl) (N := 9) (by kernel_rfl) (by kernel_rfl) (by kernel_rfl) (fun _ _ _ h => h) (Or.inl ⟨by rfl, ?_⟩) hHeld ?_
      rotate_left 1
      · intro w hSw
        go_simp
        try with_reducible rfl
      show anyK _ _ _ _ _ _ _ _ (Act.put _ (some 31) _) _
      simp only [Act.put, List.setIfInBounds_toArray, List.set_cons_zero, List.set_cons_succ]
      refine anyK_take (i := 2) (v := ?_) rfl (by kernel_rfl) (by kernel_rfl) (by kernel_rfl) (N := 9) (by kernel_rfl) (by kernel_rfl) (by kernel_rfl) (fun _ _ _ h => h) (Or.inl ⟨by rfl, ?_⟩) hHeld ?_
      rotate_left 1
      · intro w hSw
        go_simp
        try with_reducible rfl
      show anyK _ _ _ _ _ _ _ _ (Act.put _ (some 32) _) _
      simp only [Act.put, List.setIfInBounds_toArray, List.set_cons_zero, List.set_cons_succ]
      refine anyK_take (i := 3) (v := ?_) rfl (by kernel_rfl) (by kernel_rfl) (by kernel_rfl) (N := 9) (by kernel_rfl) (by kernel_rfl) (by kernel_rfl) (fun _ _ _ h => h) (Or.inl ⟨by rfl, ?_⟩) hHeld ?_
      rotate_left 1
      · intro w hSw
        go_simp
        try with_reducible rfl
      show anyK _ _ _ _ _ _ _ _ (Act.put _ (some 33) _) _
      simp only [Act.put, List.setIfInBounds_toArray, List.set_cons_zero, List.set_cons_succ]
      refine anyK_take (i := 4) (v := ?_) rfl (by kernel_rfl) (by kernel_rfl) (by kernel_rfl) (N := 9) (by kernel_rfl) (by kernel_rfl) (by kernel_rfl) (fun _ _ _ h => h) (Or.inl ⟨by rfl, ?_⟩) hHeld ?_
      rotate_left 1
      · intro w hSw
        go_simp
        try with_reducible rfl
      show anyK _ _ _ _ _ _ _ _ (Act.put _ (some 34) _) _
      simp only [Act.put, List.setIfInBounds_toArray, List.set_cons_zero, List.set_cons_succ]
      clear hHeld
      refine anyK_one (i := 5) (by kernel_rfl) rfl (fun Kk hKk => ?_)
      go_simp
      (go_at_call 26; refine (HOp.out _).mono ?_; rintro e w4 ⟨rfl, rfl⟩)
      go_wp2_with fail
      refine hKk.out _ _ (fun _ => ⟨v2, e1⟩) ?_
      clear hKk Kk
      simp only [List.setIfInBounds_toArray, List.set_cons_zero, List.set_cons_succ]
      have hHeld : U.drew.cell? ⟨Ob, 2, none⟩ = some (.slice (some ⟨g, 0, none⟩) n cv) ∧ U.drew.cell? ⟨Bx, 1, none⟩ = some (.int .i64 kk') := ⟨v2, e1⟩
      refine anyK_take (i := 6) (v := ?_) rfl (by kernel_rfl) (by kernel_rfl) (by kernel_rfl) (N := 9) (by kernel_rfl) (by kernel_rfl) (by kernel_rfl) (fun _ _ _ h => h) (Or.inl ⟨by rfl, ?_⟩) hHeld ?_
      rotate_left 1
      · intro w hSw
        go_simp
        try with_reducible rfl
      show anyK _ _ _ _ _ _ _ _ (Act.put _ (some 36) _) _
      simp only [Act.put, List.setIfInBounds_toArray, List.set_cons_zero, List.set_cons_succ]
      refine anyK_take (i := 7) (v := ?_) rfl (by kernel_rfl) (by kernel_rfl) (by kernel_rfl) (N := 9) (by kernel_rfl) (by kernel_rfl) (by kernel_rfl) (fun _ _ _ h => h) (Or.inl ⟨by rfl, ?_⟩) hHeld ?_
      rotate_left 1
      · intro w hSw
        go_simp
        try with_reducible rfl
      show anyK _ _ _ _ _ _ _ _ (Act.put _ (some 37) _) _
      simp only [Act.put, List.setIfInBounds_toArray, List.set_cons_zero, List.set_cons_succ]
      clear hHeld
      refine anyK_one (i := 8) (by kernel_rfl) rfl (fun Kk hKk => ?_)
      refine stepK_storeN rfl rfl _ _ rfl g (i * 6 + 1) ok (.int .i64 kk') rfl rfl rc1 rf1 ?_
      refine hKk.out _ _ (fun h => Bool.noConfusion (show true = false from h)) ?_
      clear hKk Kk
      simp only [List.setIfInBounds_toArray, List.set_cons_zero, List.set_cons_succ]
      refine anyK_done (by kernel_rfl) ?_ _
      generalize U.drew.setCell ⟨g, i * 6 + 1, none⟩ (.int .i64 ok) = w8 at *
      go_wp2_with fail
      go_roundg (n - (i + 1))
      case measure => omega
      case rel => exact ⟨i + 1, by go_num, by omega, rfl, HRz.out, HFz.out, HBz.out, HOz.out, HXz.out, Hsz.out, Hso.out⟩

end Go.Proofs.YtapolidgocfbjaaDoor
namespace Go.Proofs.YtapolidgocfbjaaDoor
open Go.RowKit

set_option maxHeartbeats 4000000 in
set_option maxRecDepth 100000 in
theorem Inverse_no (c : Gci) (ao : Option Addr) (n cp : Nat) (w : World) (h : OpsAt w ao n c.ops) (hn : n ≤ cp) (hcp : cp ≤ 9223372036854775807) (hS : Shp w) (hc : (pur c).1 ≠ 0) :
    Calls Tryd.prog 7 #[.agg #[.int .i64 c.qubits, .int .i64 c.bits, .slice ao n cp]] w fun e w' => e = .returned (.tuple #[.agg #[.int .i64 0, .int .i64 0, .slice none 0 0], .agg #[.int .i64 (pur c).1, .int .i64 (pur c).2]]) ∧ Ext w w' := by
  obtain ⟨qb, bi, ops⟩ := c
  obtain ⟨F, hF⟩ : ∃ F, pur ⟨qb, bi, ops⟩ = F := ⟨_, rfl⟩
  obtain ⟨u, v⟩ := F
  rw [hF] at hc ⊢
  simp only at hc ⊢
  obtain ⟨H, hH⟩ : ∃ H, w.heap.size = H := ⟨_, rfl⟩
  obtain ⟨A1, hA1⟩ : ∃ A1, w.alloc (.cells #[.int .i64 qb, .int .i64 bi, .slice ao n cp] 24) = A1 := ⟨_, rfl⟩
  obtain ⟨A2, hA2⟩ : ∃ A2, A1.alloc (.cells #[.int .i64 0, .int .i64 0, .slice none 0 0] 24) = A2 := ⟨_, rfl⟩
  obtain ⟨A3, hA3⟩ : ∃ A3, A2.alloc (.cells #[.int .i64 0, .int .i64 0] 28) = A3 := ⟨_, rfl⟩
  have s1 : A1.heap.size = H + 1 := by rw [← hA1, ← hH]; simp
  have s2 : A2.heap.size = H + 2 := by rw [← hA2]; simp; omega
  have x1 : Ext w A1 := by rw [← hA1]; exact ext_al _ _
  have x2 : Ext A1 A2 := by rw [← hA2]; exact ext_al _ _
  have x3 : Ext A2 A3 := by rw [← hA3]; exact ext_al _ _
  have bC : CiB A3 H qb bi ao n cp := by
    have : CiB A1 H qb bi ao n cp := by rw [← hA1, ← hH]; exact ⟨heap_alloc_new w _⟩
    exact (this.ext x2).ext x3
  have bR : CiB A3 (H + 1) 0 0 none 0 0 := by
    have : CiB A2 (H + 1) 0 0 none 0 0 := by rw [← hA2, ← s1]; exact ⟨heap_alloc_new A1 _⟩
    exact this.ext x3
  have bF : FtB A3 (H + 2) 0 0 := by rw [← hA3, ← s2]; exact ⟨heap_alloc_new A2 _⟩
  have E0 : Ext w A3 := (x1.trans x2).trans x3
  have hA : ((w.alloc (.cells #[.int .i64 qb, .int .i64 bi, .slice ao n cp] 24)).alloc (.cells #[.int .i64 0, .int .i64 0, .slice none 0 0] 24)).alloc (.cells #[.int .i64 0, .int .i64 0] 28) = A3 := by rw [hA1, hA2, hA3]
  have HK := Lib.hid (Pure_any ⟨qb, bi, ops⟩ ao n cp A3 (h.ext E0) hn hcp (hS.ext E0))
  rw [hF] at HK
  subst hH
  simp only at HK ⊢
  have m0 := bC.x0; have m1 := bC.x1; have m2 := bC.x2
  rw [← hA] at m0 m1 m2
  have HA := Lib.hid hA; have HE0 := Lib.hid E0; have HR := Lib.hid bR; have HFt := Lib.hid bF
  have nu := nt hc; have nb := bf hc
  clear h hS hF E0 bC bR bF x1 x2 x3 s1 s2 hA1 hA2 hA3 hA
  go_enter Tryd.func7, Tryd.ntmps7
  go_wp2_with fail
  rw [HA.out]
  refine HK.out.mono ?_
  rintro e w1 ⟨rfl, hx1⟩
  have Ef := ext_al w1 (.cells #[.int .i64 u, .int .i64 v] 28)
  have bf1 : FtB (w1.alloc (.cells #[.int .i64 u, .int .i64 v] 28)) w1.heap.size u v := ⟨heap_alloc_new w1 _⟩
  have q0 := bf1.x0; have q1 := bf1.x1
  have hX := hx1.trans Ef
  have bR1 := HR.out.ext hX; have bF1 := HFt.out.ext hX
  have HEz := Lib.hid (HE0.out.trans hX)
  have hsz1 := hX.size; have hA3 := HFt.out.lt
  have r0 := bR1.x0; have r1 := bR1.x1; have r2 := bR1.x2; have g0 := bR1.f 0; have g1 := bR1.f 1; have g2 := bR1.f 2
  have f0 := bF1.x0; have f1 := bF1.x1; have k0 := bF1.f 0; have k1 := bF1.f 1
  have HbR1 := Lib.hid bR1; have HbF1 := Lib.hid bF1
  have hgt : w.heap.size + 1 + 1 < w1.heap.size := Nat.lt_of_lt_of_le hA3 hx1.size
  have hgt1 : w1.heap.size ≠ w.heap.size + 1 := by omega
  have hgt2 : w1.heap.size ≠ w.heap.size + 1 + 1 := by omega
  have zC := (putCF_C HbR1.out (show w.heap.size + 1 ≠ w.heap.size + 1 + 1 by omega) 0 0 none 0 0 u v).drew
  have zF := (putCF_F HbF1.out (show w.heap.size + 1 ≠ w.heap.size + 1 + 1 by omega) 0 0 none 0 0 u v).drew
  have zE : Ext w (putCF (w1.alloc (.cells #[.int .i64 u, .int .i64 v] 28)) (w.heap.size + 1) (w.heap.size + 1 + 1) 0 0 none 0 0 u v).drew := Below.drew (putCF_ext HEz.out (by omega) (by omega) _ _ _ _ _ _ _)
  obtain ⟨Wz, hWz⟩ : ∃ Wz, putCF (w1.alloc (.cells #[.int .i64 u, .int .i64 v] 28)) (w.heap.size + 1) (w.heap.size + 1 + 1) 0 0 none 0 0 u v = Wz := ⟨_, rfl⟩
  rw [hWz] at zC zF zE
  unfold putCF at hWz
  have HWz := Lib.hid hWz; have HzE := Lib.hid zE
  have z0 := zC.x0; have z1 := zC.x1; have z2 := zC.x2; have z3 := zF.x0; have z4 := zF.x1
  clear m0 m1 m2 hx1 Ef bf1 HK hX bR1 bF1 hWz zE zC zF
  clear hsz1 hA3 hgt
  go_upto_region 3 with fail
  go_region
  go_wp2_with fail
  rw [HWz.out]
  exact bodyPost_ret (v := .tuple #[.agg #[.int .i64 0, .int .i64 0, .slice none 0 0], .agg #[.int .i64 u, .int .i64 v]]) (by simp [results, Tryd.results7, go_sem, z0, z1, z2, z3, z4]) rfl ⟨rfl, HzE.out⟩

set_option maxHeartbeats 4000000 in
set_option maxRecDepth 100000 in
theorem Power_no (c : Gci) (ao : Option Addr) (n cp : Nat) (x : Int) (w : World) (h : OpsAt w ao n c.ops) (hn : n ≤ cp) (hcp : cp ≤ 9223372036854775807) (hS : Shp w) (hc : (pur c).1 ≠ 0) :
    Calls Tryd.prog 17 #[.agg #[.int .i64 c.qubits, .int .i64 c.bits, .slice ao n cp], .int .i64 x] w fun e w' => e = .returned (.tuple #[.agg #[.int .i64 0, .int .i64 0, .slice none 0 0], .agg #[.int .i64 (pur c).1, .int .i64 (pur c).2]]) ∧ Ext w w' := by
  obtain ⟨qb, bi, ops⟩ := c
  obtain ⟨F, hF⟩ : ∃ F, pur ⟨qb, bi, ops⟩ = F := ⟨_, rfl⟩
  obtain ⟨u, v⟩ := F
  rw [hF] at hc ⊢
  simp only at hc ⊢
  obtain ⟨H, hH⟩ : ∃ H, w.heap.size = H := ⟨_, rfl⟩
  obtain ⟨A1, hA1⟩ : ∃ A1, w.alloc (.cells #[.int .i64 qb, .int .i64 bi, .slice ao n cp] 24) = A1 := ⟨_, rfl⟩
  obtain ⟨A2, hA2⟩ : ∃ A2, A1.alloc (.cells #[.int .i64 0, .int .i64 0, .slice none 0 0] 24) = A2 := ⟨_, rfl⟩
  obtain ⟨A3, hA3⟩ : ∃ A3, A2.alloc (.cells #[.int .i64 0, .int .i64 0] 28) = A3 := ⟨_, rfl⟩
  have s1 : A1.heap.size = H + 1 := by rw [← hA1, ← hH]; simp
  have s2 : A2.heap.size = H + 2 := by rw [← hA2]; simp; omega
  have x1 : Ext w A1 := by rw [← hA1]; exact ext_al _ _
  have x2 : Ext A1 A2 := by rw [← hA2]; exact ext_al _ _
  have x3 : Ext A2 A3 := by rw [← hA3]; exact ext_al _ _
  have bC : CiB A3 H qb bi ao n cp := by
    have : CiB A1 H qb bi ao n cp := by rw [← hA1, ← hH]; exact ⟨heap_alloc_new w _⟩
    exact (this.ext x2).ext x3
  have bR : CiB A3 (H + 1) 0 0 none 0 0 := by
    have : CiB A2 (H + 1) 0 0 none 0 0 := by rw [← hA2, ← s1]; exact ⟨heap_alloc_new A1 _⟩
    exact this.ext x3
  have bF : FtB A3 (H + 2) 0 0 := by rw [← hA3, ← s2]; exact ⟨heap_alloc_new A2 _⟩
  have E0 : Ext w A3 := (x1.trans x2).trans x3
  have hA : ((w.alloc (.cells #[.int .i64 qb, .int .i64 bi, .slice ao n cp] 24)).alloc (.cells #[.int .i64 0, .int .i64 0, .slice none 0 0] 24)).alloc (.cells #[.int .i64 0, .int .i64 0] 28) = A3 := by rw [hA1, hA2, hA3]
  have HK := Lib.hid (Pure_any ⟨qb, bi, ops⟩ ao n cp A3 (h.ext E0) hn hcp (hS.ext E0))
  rw [hF] at HK
  subst hH
  simp only at HK ⊢
  have m0 := bC.x0; have m1 := bC.x1; have m2 := bC.x2
  rw [← hA] at m0 m1 m2
  have HA := Lib.hid hA; have HE0 := Lib.hid E0; have HR := Lib.hid bR; have HFt := Lib.hid bF
  have nu := nt hc; have nb := bf hc
  clear h hS hF E0 bC bR bF x1 x2 x3 s1 s2 hA1 hA2 hA3 hA
  go_enter Tryd.func17, Tryd.ntmps17
  go_wp2_with fail
  rw [HA.out]
  refine HK.out.mono ?_
  rintro e w1 ⟨rfl, hx1⟩
  have Ef := ext_al w1 (.cells #[.int .i64 u, .int .i64 v] 28)
  have bf1 : FtB (w1.alloc (.cells #[.int .i64 u, .int .i64 v] 28)) w1.heap.size u v := ⟨heap_alloc_new w1 _⟩
  have q0 := bf1.x0; have q1 := bf1.x1
  have hX := hx1.trans Ef
  have bR1 := HR.out.ext hX; have bF1 := HFt.out.ext hX
  have HEz := Lib.hid (HE0.out.trans hX)
  have hsz1 := hX.size; have hA3 := HFt.out.lt
  have r0 := bR1.x0; have r1 := bR1.x1; have r2 := bR1.x2; have g0 := bR1.f 0; have g1 := bR1.f 1; have g2 := bR1.f 2
  have f0 := bF1.x0; have f1 := bF1.x1; have k0 := bF1.f 0; have k1 := bF1.f 1
  have HbR1 := Lib.hid bR1; have HbF1 := Lib.hid bF1
  have hgt : w.heap.size + 1 + 1 < w1.heap.size := Nat.lt_of_lt_of_le hA3 hx1.size
  have hgt1 : w1.heap.size ≠ w.heap.size + 1 := by omega
  have hgt2 : w1.heap.size ≠ w.heap.size + 1 + 1 := by omega
  have zC := (putCF_C HbR1.out (show w.heap.size + 1 ≠ w.heap.size + 1 + 1 by omega) 0 0 none 0 0 u v).drew
  have zF := (putCF_F HbF1.out (show w.heap.size + 1 ≠ w.heap.size + 1 + 1 by omega) 0 0 none 0 0 u v).drew
  have zE : Ext w (putCF (w1.alloc (.cells #[.int .i64 u, .int .i64 v] 28)) (w.heap.size + 1) (w.heap.size + 1 + 1) 0 0 none 0 0 u v).drew := Below.drew (putCF_ext HEz.out (by omega) (by omega) _ _ _ _ _ _ _)
  obtain ⟨Wz, hWz⟩ : ∃ Wz, putCF (w1.alloc (.cells #[.int .i64 u, .int .i64 v] 28)) (w.heap.size + 1) (w.heap.size + 1 + 1) 0 0 none 0 0 u v = Wz := ⟨_, rfl⟩
  rw [hWz] at zC zF zE
  unfold putCF at hWz
  have HWz := Lib.hid hWz; have HzE := Lib.hid zE
  have z0 := zC.x0; have z1 := zC.x1; have z2 := zC.x2; have z3 := zF.x0; have z4 := zF.x1
  clear m0 m1 m2 hx1 Ef bf1 HK hX bR1 bF1 hWz zE zC zF
  clear hsz1 hA3 hgt
  go_upto_region 3 with fail
  go_region
  go_wp2_with fail
  rw [HWz.out]
  exact bodyPost_ret (v := .tuple #[.agg #[.int .i64 0, .int .i64 0, .slice none 0 0], .agg #[.int .i64 u, .int .i64 v]]) (by simp [results, Tryd.results17, go_sem, z0, z1, z2, z3, z4]) rfl ⟨rfl, HzE.out⟩

end Go.Proofs.YtapolidgocfbjaaDoor
namespace Go.Proofs.YtapolidgocfbjaaDoor
open Go.RowKit

/-- Operations in a row of the call's own; their lists lie in an older world. -/
def OpsL (w0 w : World) (base : Nat) (v : Value) (ops : List Gop) : Prop :=
  ∃ xs : List Value, w.ownsRow base 43 6 v ops.length xs ∧ ∀ t g, ops[t]? = some g → ∃ (a1 : Option Addr) (n1 c1 : Nat) (a2 : Option Addr) (n2 c2 : Nat),
    xs[t * 6]? = some (.int .i64 g.kind) ∧ xs[t * 6 + 1]? = some (.int .i64 g.k) ∧ xs[t * 6 + 2]? = some (.slice a1 n1 c1) ∧ xs[t * 6 + 3]? = some (.int .i64 g.q) ∧ xs[t * 6 + 4]? = some (.int .i64 g.bit) ∧ xs[t * 6 + 5]? = some (.slice a2 n2 c2) ∧ OpL w0 g a1 n1 c1 a2 n2 c2
theorem OpsL.nil (w0 w : World) (base : Nat) : OpsL w0 w base (.slice none 0 0) [] := ⟨[], ⟨rfl, Or.inl ⟨rfl, rfl⟩⟩, fun t g h => by simp at h⟩
theorem OpsL.at {w0 w : World} {base : Nat} {v : Value} {ops : List Gop} (h : OpsL w0 w base v ops) (hE : Ext w0 w) : ∃ (a : Option Addr) (c : Nat), v = .slice a ops.length c ∧ ops.length ≤ c ∧ c ≤ maxLen ∧ OpsAt w a ops.length ops := by
  obtain ⟨xs, h1, h2⟩ := h
  rcases h1.2 with ⟨rfl, h0⟩ | ⟨g, cap, cur, hv, hb, hg, hn, hcm, _, htk⟩
  · rw [h0]
    exact ⟨none, 0, rfl, Nat.le_refl _, Nat.zero_le _, h0, Or.inl rfl⟩
  · refine ⟨some ⟨g, 0, none⟩, cap, hv, hn, hcm, rfl, Or.inr ⟨g, 0, rfl, (Array.getElem?_eq_some_iff.1 hg).1, fun t gg hgg => ?_⟩⟩
    obtain ⟨a1, n1, c1, a2, n2, c2, e0, e1, e2, e3, e4, e5, e6⟩ := h2 t gg hgg
    have ht := (List.getElem?_eq_some_iff.1 hgg).1
    have hc : ∀ j, j < ops.length * 6 → w.cell? ⟨g, 0 + j, none⟩ = xs[j]? := by
      intro j hj
      rw [Nat.zero_add, cell_of_row w g j cur _ (0, 0) hg, ← Array.getElem?_toList, ← htk, List.getElem?_take, if_pos hj]
    exact ⟨a1, n1, c1, a2, n2, c2, by rw [hc _ (by omega)]; exact e0, by rw [Nat.add_assoc, hc _ (by omega)]; exact e1, by rw [Nat.add_assoc, hc _ (by omega)]; exact e2, by rw [Nat.add_assoc, hc _ (by omega)]; exact e3, by rw [Nat.add_assoc, hc _ (by omega)]; exact e4, by rw [Nat.add_assoc, hc _ (by omega)]; exact e5, e6.ext hE⟩
/-- The cells of operations that lie somewhere. -/
theorem opsAt_cells {w : World} {b o n : Nat} {ops : List Gop} (h : OpsAt w (some ⟨b, o, none⟩) n ops) : ∃ ys : List Value, ys.length = n * 6 ∧ (∀ j u, ys[j]? = some u → w.cell? ((⟨b, o, none⟩ : Addr).add j) = some u) ∧ (∀ u ∈ ys, u.oneCell' = true) ∧
    ∀ t g, ops[t]? = some g → ∃ (a1 : Option Addr) (n1 c1 : Nat) (a2 : Option Addr) (n2 c2 : Nat), ys[t * 6]? = some (.int .i64 g.kind) ∧ ys[t * 6 + 1]? = some (.int .i64 g.k) ∧ ys[t * 6 + 2]? = some (.slice a1 n1 c1) ∧ ys[t * 6 + 3]? = some (.int .i64 g.q) ∧ ys[t * 6 + 4]? = some (.int .i64 g.bit) ∧ ys[t * 6 + 5]? = some (.slice a2 n2 c2) ∧ OpL w g a1 n1 c1 a2 n2 c2 := by
  have hl := h.1
  have hex : ∀ t, t < n → ∃ f : Nat → Value, (∀ k, k < 6 → w.cell? ⟨b, o + t * 6 + k, none⟩ = some (f k) ∧ (f k).oneCell' = true) ∧ ∃ g, ops[t]? = some g ∧ ∃ (a1 : Option Addr) (n1 c1 : Nat) (a2 : Option Addr) (n2 c2 : Nat), f 0 = .int .i64 g.kind ∧ f 1 = .int .i64 g.k ∧ f 2 = .slice a1 n1 c1 ∧ f 3 = .int .i64 g.q ∧ f 4 = .int .i64 g.bit ∧ f 5 = .slice a2 n2 c2 ∧ OpL w g a1 n1 c1 a2 n2 c2 := by
    intro t ht
    have hgt : ops[t]? = some ops[t] := List.getElem?_eq_getElem (by omega)
    obtain ⟨a1, n1, c1, a2, n2, c2, e0, e1, e2, e3, e4, e5, e6⟩ := h.at t _ hgt
    refine ⟨opF ops[t] a1 n1 c1 a2 n2 c2, fun k hk => ?_, ops[t], hgt, a1, n1, c1, a2, n2, c2, rfl, rfl, rfl, rfl, rfl, rfl, e6⟩
    have : k = 0 ∨ k = 1 ∨ k = 2 ∨ k = 3 ∨ k = 4 ∨ k = 5 := by omega
    rcases this with rfl | rfl | rfl | rfl | rfl | rfl
    · exact ⟨e0, rfl⟩
    · exact ⟨e1, rfl⟩
    · exact ⟨e2, rfl⟩
    · exact ⟨e3, rfl⟩
    · exact ⟨e4, rfl⟩
    · exact ⟨e5, rfl⟩
  obtain ⟨F, hF⟩ := Classical.axiomOfChoice (fun t : Fin n => hex t.1 t.2)
  refine ⟨(List.range (n * 6)).map (fun j => if hj : j / 6 < n then F ⟨j / 6, hj⟩ (j % 6) else .bool false), by simp, ?_, ?_, ?_⟩
  · intro j u hu
    rw [List.getElem?_map] at hu
    obtain ⟨x, hx, rfl⟩ := Option.map_eq_some_iff.1 hu
    have hj : j < n * 6 := by have := (List.getElem?_eq_some_iff.1 hx).1; simpa using this
    obtain rfl : x = j := by have := (List.getElem?_eq_some_iff.1 hx).2; simpa using this.symm
    rw [dif_pos (by omega)]
    have := ((hF ⟨x / 6, by omega⟩).1 (x % 6) (by omega)).1
    have hadd : (⟨b, o, none⟩ : Addr).add x = ⟨b, o + x, none⟩ := by unfold Addr.add; split <;> simp_all
    rw [hadd, show o + x = o + x / 6 * 6 + x % 6 by omega]
    exact this
  · intro u hu
    obtain ⟨x, hx, rfl⟩ := List.mem_map.1 hu
    have hj : x < n * 6 := by simpa using hx
    rw [dif_pos (by omega)]
    exact ((hF ⟨x / 6, by omega⟩).1 (x % 6) (by omega)).2
  · intro t g hg
    have ht : t < n := by have := (List.getElem?_eq_some_iff.1 hg).1; omega
    obtain ⟨_, g', hg', a1, n1, c1, a2, n2, c2, f0, f1, f2, f3, f4, f5, f6⟩ := hF ⟨t, ht⟩
    simp only at hg'
    rw [hg] at hg'
    injection hg' with hg'
    subst hg'
    have key : ∀ k, k < 6 → ((List.range (n * 6)).map (fun j => if hj : j / 6 < n then F ⟨j / 6, hj⟩ (j % 6) else .bool false))[t * 6 + k]? = some (F ⟨t, ht⟩ k) := by
      intro k hk
      rw [List.getElem?_map, List.getElem?_range (by omega)]
      simp only [Option.map_some]
      rw [dif_pos (by omega)]
      have e1 : (t * 6 + k) / 6 = t := by omega
      have e2 : (t * 6 + k) % 6 = k := by omega
      simp only [e1, e2]
    exact ⟨a1, n1, c1, a2, n2, c2, by rw [show t * 6 = t * 6 + 0 from rfl, key 0 (by omega), f0], by rw [key 1 (by omega), f1], by rw [key 2 (by omega), f2], by rw [key 3 (by omega), f3], by rw [key 4 (by omega), f4], by rw [key 5 (by omega), f5], f6⟩
theorem OpsL.app {w0 w' : World} {base : Nat} {v' : Value} {ops news : List Gop} {xs ys : List Value} (hx : xs.length = ops.length * 6)
    (h1 : w'.ownsRow base 43 6 v' (ops.length + news.length) (xs ++ ys))
    (h2 : ∀ t g, ops[t]? = some g → ∃ (a1 : Option Addr) (n1 c1 : Nat) (a2 : Option Addr) (n2 c2 : Nat), xs[t * 6]? = some (.int .i64 g.kind) ∧ xs[t * 6 + 1]? = some (.int .i64 g.k) ∧ xs[t * 6 + 2]? = some (.slice a1 n1 c1) ∧ xs[t * 6 + 3]? = some (.int .i64 g.q) ∧ xs[t * 6 + 4]? = some (.int .i64 g.bit) ∧ xs[t * 6 + 5]? = some (.slice a2 n2 c2) ∧ OpL w0 g a1 n1 c1 a2 n2 c2)
    (h3 : ∀ t g, news[t]? = some g → ∃ (a1 : Option Addr) (n1 c1 : Nat) (a2 : Option Addr) (n2 c2 : Nat), ys[t * 6]? = some (.int .i64 g.kind) ∧ ys[t * 6 + 1]? = some (.int .i64 g.k) ∧ ys[t * 6 + 2]? = some (.slice a1 n1 c1) ∧ ys[t * 6 + 3]? = some (.int .i64 g.q) ∧ ys[t * 6 + 4]? = some (.int .i64 g.bit) ∧ ys[t * 6 + 5]? = some (.slice a2 n2 c2) ∧ OpL w0 g a1 n1 c1 a2 n2 c2) :
    OpsL w0 w' base v' (ops ++ news) := by
  refine ⟨xs ++ ys, by rw [List.length_append]; exact h1, fun t g hg => ?_⟩
  by_cases ht : t < ops.length
  · rw [List.getElem?_append_left ht] at hg
    obtain ⟨a1, n1, c1, a2, n2, c2, e0, e1, e2, e3, e4, e5, e6⟩ := h2 t g hg
    have hr : ∀ j, j < 6 → (xs ++ ys)[t * 6 + j]? = xs[t * 6 + j]? := fun j hj => List.getElem?_append_left (by omega)
    exact ⟨a1, n1, c1, a2, n2, c2, (hr 0 (by omega)).trans e0, (hr 1 (by omega)).trans e1, (hr 2 (by omega)).trans e2, (hr 3 (by omega)).trans e3, (hr 4 (by omega)).trans e4, (hr 5 (by omega)).trans e5, e6⟩
  · rw [List.getElem?_append_right (by omega)] at hg
    obtain ⟨a1, n1, c1, a2, n2, c2, e0, e1, e2, e3, e4, e5, e6⟩ := h3 (t - ops.length) g hg
    have hr : ∀ j, (xs ++ ys)[t * 6 + j]? = ys[(t - ops.length) * 6 + j]? := fun j => by
      rw [List.getElem?_append_right (by omega), hx]
      congr 1; omega
    exact ⟨a1, n1, c1, a2, n2, c2, (hr 0).trans e0, (hr 1).trans e1, (hr 2).trans e2, (hr 3).trans e3, (hr 4).trans e4, (hr 5).trans e5, e6⟩

/-- Operations, so often. -/
def repO (k : Nat) (ops : List Gop) : List Gop := (List.replicate k ops).flatten
theorem repO_len (k : Nat) (ops : List Gop) : (repO k ops).length = k * ops.length := by
  unfold repO
  induction k with
  | zero => simp
  | succ k ih => rw [List.replicate_succ, List.flatten_cons, List.length_append, ih, Nat.succ_mul, Nat.add_comm]
theorem repO_succ (k : Nat) (ops : List Gop) : repO (k + 1) ops = repO k ops ++ ops := by
  unfold repO
  rw [List.replicate_succ', List.flatten_append]
  simp
theorem repO_mem {k : Nat} {ops : List Gop} {g : Gop} (h : g ∈ repO k ops) : g ∈ ops := by
  unfold repO at h
  obtain ⟨l, hl, hg⟩ := List.mem_flatten.1 h
  rw [List.mem_replicate] at hl
  rw [← hl.2]; exact hg

end Go.Proofs.YtapolidgocfbjaaDoor
namespace Go.Proofs.YtapolidgocfbjaaDoor
open Go.RowKit

/-- What is done natAbs x times. -/
def onceO (x : Int) (ops : List Gop) : List Gop := if x < 0 then invO ops else ops
theorem onceO_len (x : Int) (ops : List Gop) : (onceO x ops).length = ops.length := by
  unfold onceO invO
  split <;> simp

end Go.Proofs.YtapolidgocfbjaaDoor
namespace Go.Proofs.YtapolidgocfbjaaDoor
open Go.RowKit

theorem opp_range {k : Int} (h : 0 ≤ k ∧ k ≤ 15) : 0 ≤ opp k ∧ opp k ≤ 15 := by
  unfold opp
  have h1 := Int.tmod_nonneg 16 (show 0 ≤ 16 - k by omega)
  have h2 := Int.tmod_lt_of_pos (16 - k) (show (0 : Int) < 16 by omega)
  omega
theorem opp_eq {k : Int} (h : 0 ≤ k ∧ k ≤ 15) : opp k = if k = 0 then 0 else 16 - k := by
  unfold opp
  rw [Int.tmod_eq_emod_of_nonneg (by omega)]
  split <;> omega
/-- A circuit of gates alone. -/
structure Pur (qb bi : Int) (ops : List Gop) : Prop where
  q : 1 ≤ qb ∧ qb ≤ 12
  b : 0 ≤ bi ∧ bi ≤ 12
  l : ops.length ≤ 4096
  o : ∀ g ∈ ops, opCode g qb bi = 0 ∧ g.kind < 5 ∧ g.cnd.length = 0
theorem purF_of {l : List Gop} : ∀ i, (∀ g ∈ l, g.kind < 5 ∧ g.cnd.length = 0) → purF i l = (0, 0) := by
  induction l with
  | nil => intro i _; rfl
  | cons o r ih =>
    intro i h
    have := h o (by simp)
    rw [purF, if_neg (by omega)]
    exact ih _ (fun g hg => h g (by simp [hg]))
theorem purF_to {l : List Gop} : ∀ i, (purF i l).1 = 0 → ∀ g ∈ l, g.kind < 5 ∧ g.cnd.length = 0 := by
  induction l with
  | nil => intro i _ g hg; simp at hg
  | cons o r ih =>
    intro i h g hg
    rw [purF] at h
    by_cases hc : 5 ≤ o.kind ∨ 0 < o.cnd.length
    · rw [if_pos hc] at h; exact absurd h (show ¬ (15 : Int) = 0 by decide)
    · rw [if_neg hc] at h
      rcases List.mem_cons.1 hg with rfl | hg
      · omega
      · exact ih _ h g hg
theorem opsCode_of {n b : Int} {l : List Gop} : ∀ i, (∀ g ∈ l, opCode g n b = 0) → opsCode n b i l = (0, 0) := by
  induction l with
  | nil => intro i _; rfl
  | cons o r ih =>
    intro i h
    rw [opsCode, if_neg (by rw [h o (by simp)]; simp)]
    exact ih _ (fun g hg => h g (by simp [hg]))
theorem pur_iff {qb bi : Int} {ops : List Gop} : (pur ⟨qb, bi, ops⟩).1 = 0 ↔ Pur qb bi ops := by
  constructor
  · intro h
    obtain ⟨hck, hpz⟩ := pur_zero h
    obtain ⟨hz, hq1, hq2, hb1, hb2, hl4, hop⟩ := chk_zero hck
    unfold pur at h
    rw [if_neg (by omega)] at h
    exact ⟨⟨hq1, hq2⟩, ⟨hb1, hb2⟩, hl4, fun g hg => ⟨hop g hg, purF_to 0 h g hg⟩⟩
  · intro h
    have hc : chk ⟨qb, bi, ops⟩ = (0, 0) := by
      unfold chk
      have := h.q; have := h.b; have := h.l
      rw [if_neg (by simp only; omega), if_neg (by simp only; omega), if_neg (by simp only; omega)]
      exact opsCode_of 0 (fun g hg => (h.o g hg).1)
    unfold pur
    rw [if_neg (by rw [hc]; simp), purF_of 0 (fun g hg => (h.o g hg).2)]
theorem Pur.ks {qb bi : Int} {ops : List Gop} (h : Pur qb bi ops) : ∀ g ∈ ops, 0 ≤ g.k ∧ g.k ≤ 15 := fun g hg => opk_range (h.o g hg).1
end Go.Proofs.YtapolidgocfbjaaDoor
namespace Go.Proofs.YtapolidgocfbjaaDoor
open Go.RowKit

theorem ext_only {w U W : World} {k : Nat} (h : Ext w U) (hO : Only k U W) (hk : w.heap.size ≤ k) : Ext w W :=
  Below.trans h ⟨hO.os, hO.tape, hO.output, Nat.le_of_eq hO.size.symm, fun i hi => hO.block i (by omega)⟩
theorem CiB.kept {w w' : World} {k g : Nat} {qb bi : Int} {ao : Option Addr} {n cp : Nat} (h : CiB w g qb bi ao n cp) (hO : Only k w w') (hk : g ≠ k) : CiB w' g qb bi ao n cp := ⟨(hO.block g hk).trans h.row⟩
theorem FtB.kept {w w' : World} {k g : Nat} {x y : Int} (h : FtB w g x y) (hO : Only k w w') (hk : g ≠ k) : FtB w' g x y := ⟨(hO.block g hk).trans h.row⟩
theorem FtB_grown {a w' : World} {v : Value} {base g : Nat} {e : TypeId} {x y : Int} (hg : a.grownBy w' v.ownBlock) (hk : ∀ k, v.ownBlock = some k → base ≤ k ∧ ∃ cs fr, a.heap[k]? = some (.cells cs e fr)) (h : FtB a g x y) (hb : g < base) : FtB w' g x y :=
  ⟨(hg.block g h.lt (fun e => by have := (hk g e.symm).1; omega)).trans h.row⟩
theorem CiB_grownK {a w' : World} {v : Value} {base g : Nat} {qb bi : Int} {ao : Option Addr} {n cp : Nat} (hg : a.grownBy w' v.ownBlock) (hk : ∀ k, v.ownBlock = some k → base ≤ k ∧ ∃ cs fr, a.heap[k]? = some (.cells cs 43 fr)) (h : CiB a g qb bi ao n cp) : CiB w' g qb bi ao n cp :=
  ⟨(hg.block g h.lt (fun e => by obtain ⟨_, cs, fr, e2⟩ := hk g e.symm; rw [h.row] at e2; cases e2)).trans h.row⟩
theorem FtB_grownK {a w' : World} {v : Value} {base g : Nat} {x y : Int} (hg : a.grownBy w' v.ownBlock) (hk : ∀ k, v.ownBlock = some k → base ≤ k ∧ ∃ cs fr, a.heap[k]? = some (.cells cs 43 fr)) (h : FtB a g x y) : FtB w' g x y :=
  ⟨(hg.block g h.lt (fun e => by obtain ⟨_, cs, fr, e2⟩ := hk g e.symm; rw [h.row] at e2; cases e2)).trans h.row⟩
theorem only2 (W : World) (A : Nat) (u v : Value) : Only A W ((W.setCell ⟨A, 0, none⟩ u).setCell ⟨A, 1, none⟩ v) := ((Only.refl _ _).setCell _ _).setCell _ _
theorem OpBx.set1 {W : World} {g : Nat} {k0 k1 : Int} {a1 : Option Addr} {n1 c1 : Nat} {k3 k4 : Int} {a2 : Option Addr} {n2 c2 : Nat} (h : OpBx W g k0 k1 a1 n1 c1 k3 k4 a2 n2 c2) (z : Int) : OpBx (W.setCell ⟨g, 1, none⟩ (.int .i64 z)) g k0 z a1 n1 c1 k3 k4 a2 n2 c2 := ⟨heap_setCell_same W g 1 _ _ (.int .i64 z) h.row⟩
theorem slice_of_own {w : World} {base : Nat} {e : TypeId} {size : Nat} {v : Value} {n : Nat} {xs : List Value} (h : w.ownsRow base e size v n xs) (hn : 0 < n) : ∃ g c, v = .slice (some ⟨g, 0, none⟩) n c := by
  rcases h.2 with ⟨_, h0⟩ | ⟨g, cap, _, hv, _⟩
  · omega
  · exact ⟨g, cap, hv⟩
/-- Blocks of ints are as they were where a row of operations has grown. -/
theorem grown_ints {a w' : World} {v : Value} {base : Nat} (hg : a.grownBy w' v.ownBlock) (hk : ∀ k, v.ownBlock = some k → base ≤ k ∧ ∃ cs fr, a.heap[k]? = some (.cells cs 43 fr)) : ∀ (b : Nat) (cur : Array Value) (fr : Nat × Nat), a.heap[b]? = some (.cells cur 3 fr) → w'.heap[b]? = a.heap[b]? := fun b' cur fr hb' => by
  refine hg.block b' (Array.getElem?_eq_some_iff.1 hb').1 (fun e => ?_)
  obtain ⟨_, cs, fr', e2⟩ := hk b' e.symm
  rw [e2] at hb'
  cases hb'
theorem invO_len (ops : List Gop) : (invO ops).length = ops.length := by unfold invO; rw [List.length_map, List.length_reverse]
theorem invO_get {ops : List Gop} {j m : Nat} (h : j + m + 1 = ops.length) : (invO ops)[j]? = ops[m]?.map undoO := by
  unfold invO
  rw [List.getElem?_map, List.getElem?_reverse (by omega), show ops.length - 1 - j = m by omega]

set_option maxHeartbeats 8000000 in
set_option maxRecDepth 100000 in
theorem RInverse_yes (c : Gci) (ao : Option Addr) (n cp : Nat) (w : World) (h : OpsAt w ao n c.ops) (hn : n ≤ cp) (hcp : cp ≤ 9223372036854775807) (hp : (pur c).1 = 0) :
    Calls Tryd.prog 8 #[.agg #[.int .i64 c.qubits, .int .i64 c.bits, .slice ao n cp]] w fun e w' => (∃ (a' : Option Addr) (c' : Nat), e = .returned (.tuple #[.agg #[.int .i64 c.qubits, .int .i64 c.bits, .slice a' n c'], .agg #[.int .i64 0, .int .i64 0]]) ∧ OpsN w' w.heap.size (.slice a' n c') (invO c.ops)) ∧ Ext w w' := by
  obtain ⟨hck, hpz⟩ := pur_zero hp
  obtain ⟨hz, hq1, hq2, hb1, hb2, hl4, hop⟩ := chk_zero hck
  obtain ⟨i0, hi, hz0, hz1, hz2⟩ := info_parts op_info
  have hfit : ∀ g ∈ c.ops, (g.ctl.length ≤ 1000 ∧ g.cnd.length ≤ 1000) ∧ 0 ≤ g.k ∧ g.k ≤ 15 := fun g hg => by
    have f := prFit_of_code hq2 hb1 hb2 (hop g hg)
    exact ⟨⟨Nat.le_trans f.few (by decide), Nat.le_trans f.cfew (by decide)⟩, opk_range (hop g hg)⟩
  have hl : c.ops.length = n := h.1
  rw [hl] at hl4
  obtain ⟨qb, bi, ops⟩ := c
  simp only at hfit hl h ⊢
  obtain ⟨H, hH⟩ : ∃ H, w.heap.size = H := ⟨_, rfl⟩
  obtain ⟨A1, hA1⟩ : ∃ A1, w.alloc (.cells #[.int .i64 qb, .int .i64 bi, .slice ao n cp] 24) = A1 := ⟨_, rfl⟩
  obtain ⟨A2, hA2⟩ : ∃ A2, A1.alloc (.cells #[.int .i64 0, .int .i64 0, .slice none 0 0] 24) = A2 := ⟨_, rfl⟩
  obtain ⟨A3, hA3⟩ : ∃ A3, A2.alloc (.cells #[.int .i64 0, .int .i64 0] 28) = A3 := ⟨_, rfl⟩
  have s1 : A1.heap.size = H + 1 := by rw [← hA1, ← hH]; simp
  have s2 : A2.heap.size = H + 2 := by rw [← hA2]; simp; omega
  have s3 : A3.heap.size = H + 3 := by rw [← hA3]; simp; omega
  have x1 : Ext w A1 := by rw [← hA1]; exact ext_al _ _
  have x2 : Ext A1 A2 := by rw [← hA2]; exact ext_al _ _
  have x3 : Ext A2 A3 := by rw [← hA3]; exact ext_al _ _
  have bC : CiB A3 H qb bi ao n cp := by
    have : CiB A1 H qb bi ao n cp := by rw [← hA1, ← hH]; exact ⟨heap_alloc_new w _⟩
    exact (this.ext x2).ext x3
  have bR : CiB A3 (H + 1) 0 0 none 0 0 := by
    have : CiB A2 (H + 1) 0 0 none 0 0 := by rw [← hA2, ← s1]; exact ⟨heap_alloc_new A1 _⟩
    exact this.ext x3
  have bF : FtB A3 (H + 2) 0 0 := by rw [← hA3, ← s2]; exact ⟨heap_alloc_new A2 _⟩
  have E0 : Ext w A3 := (x1.trans x2).trans x3
  have hA : ((w.alloc (.cells #[.int .i64 qb, .int .i64 bi, .slice ao n cp] 24)).alloc (.cells #[.int .i64 0, .int .i64 0, .slice none 0 0] 24)).alloc (.cells #[.int .i64 0, .int .i64 0] 28) = A3 := by rw [hA1, hA2, hA3]
  have HK := Lib.hid (RPure_any ⟨qb, bi, ops⟩ ao n cp A3 (h.ext E0) hn hcp)
  rw [hpz] at HK
  simp only at HK
  have m0 := bC.x0; have m1 := bC.x1; have m2 := bC.x2
  rw [← hA] at m0 m1 m2
  have HA := Lib.hid hA; have HE0 := Lib.hid E0; have HC := Lib.hid bC; have HR := Lib.hid bR; have HFt := Lib.hid bF
  have Hops := Lib.hid h; have Hfit := Lib.hid hfit; have Hl := Lib.hid hl; have Hs3 := Lib.hid s3; have HhH := Lib.hid hH
  obtain ⟨n1, hn1⟩ : ∃ y : Int, (n : Int) - 1 = y := ⟨_, rfl⟩
  have wn1 : IntKind.i64.wrap ((n : Int) - 1) = n1 := by rw [IntKind.wrap_i64]; omega
  have Hn1 := Lib.hid hn1
  clear h hpz E0 bC bR bF x1 x2 x3 s1 s2 s3 hA1 hA2 hA3 hA hfit hl hck hz hq1 hq2 hb1 hb2 hop hp hn1
  go_enter Tryd.func8, Tryd.ntmps8
  go_wp2_with fail
  rw [HA.out]
  refine HK.out.mono ?_
  rintro e w1 ⟨rfl, hx1⟩
  have Ef := ext_al w1 (.cells #[.int .i64 0, .int .i64 0] 28)
  have EO := ext_al (w1.alloc (.cells #[.int .i64 0, .int .i64 0] 28)) (.cells #[.int .i64 qb, .int .i64 bi, .slice none 0 0] 24)
  have bf1 : FtB (w1.alloc (.cells #[.int .i64 0, .int .i64 0] 28)) w1.heap.size 0 0 := ⟨heap_alloc_new w1 _⟩
  have hszA : (w1.alloc (.cells #[.int .i64 0, .int .i64 0] 28)).heap.size = w1.heap.size + 1 := by simp
  have bOc : CiB ((w1.alloc (.cells #[.int .i64 0, .int .i64 0] 28)).alloc (.cells #[.int .i64 qb, .int .i64 bi, .slice none 0 0] 24)) (w1.heap.size + 1) qb bi none 0 0 := by rw [← hszA]; exact ⟨heap_alloc_new _ _⟩
  have q0 := bf1.x0; have q1 := bf1.x1
  have hX := hx1.trans Ef
  have bC1 := HC.out.ext hX
  have y0 := bC1.x0; have y1 := bC1.x1; have y2 := bC1.x2
  have z2 := (bC1.ext EO).x2
  have HC2 := Lib.hid (bC1.ext EO); have HR2 := Lib.hid ((HR.out.ext hX).ext EO); have HF2 := Lib.hid ((HFt.out.ext hX).ext EO); have HE2 := Lib.hid ((HE0.out.trans hX).trans EO); have Hf2 := Lib.hid (bf1.ext EO); have HO2 := Lib.hid bOc
  have hlo : H + 3 ≤ w1.heap.size := by have := hx1.size; have := Hs3.out; omega
  have Hlo := Lib.hid hlo
  have Hsz2 := Lib.hid (show ((w1.alloc (.cells #[.int .i64 0, .int .i64 0] 28)).alloc (.cells #[.int .i64 qb, .int .i64 bi, .slice none 0 0] 24)).heap.size = w1.heap.size + 2 by simp)
  clear hx1 Ef EO bf1 hX bC1 HK HC HR HFt HE0 m0 m1 m2 hszA bOc hlo
  go_wp2_with fail
  generalize (w1.alloc (.cells #[.int .i64 0, .int .i64 0] 28)).alloc (.cells #[.int .i64 qb, .int .i64 bi, .slice none 0 0] 24) = W2 at *
  obtain ⟨Fb, hFb⟩ : ∃ y, w1.heap.size = y := ⟨_, rfl⟩
  rw [hFb] at HO2 Hf2 Hlo Hsz2 ⊢
  obtain ⟨Ob, hOb⟩ : ∃ y, Fb + 1 = y := ⟨_, rfl⟩
  rw [hOb] at HO2 ⊢
  have nF1 : Fb ≠ H + 1 := by have := Hlo.out; omega
  have nF2 : Fb ≠ H + 2 := by have := Hlo.out; omega
  have nO1 : Ob ≠ H + 1 := by have := Hlo.out; omega
  have nO2 : Ob ≠ H + 2 := by have := Hlo.out; omega
  have nOF : Ob ≠ Fb := by omega
  have nOH : Ob ≠ H := by have := Hlo.out; omega
  have HOb := Lib.hid hOb
  clear q0 q1 y0 y1 y2 z2 hFb hOb
  go_loopg [6, 7] n (fun kk s6 s7 wx => ∃ (j : Nat) (i : Int) (av : Option Addr) (cv : Nat), s6 = .int .i64 i ∧ i = n1 - (j : Int) ∧ j ≤ n ∧ n - j = kk ∧ CiB wx H qb bi ao n cp ∧ CiB wx (H + 1) 0 0 none 0 0 ∧ FtB wx (H + 2) 0 0 ∧ FtB wx Fb 0 0 ∧ CiB wx Ob qb bi av j cv ∧ OpsN wx (Ob + 1) (.slice av j cv) ((invO ops).take j) ∧ Ext w wx ∧ Ob + 1 ≤ wx.heap.size)
  case atStart => exact ⟨0, n1, none, 0, rfl, by omega, by omega, by omega, HC2.out, HR2.out, HF2.out, Hf2.out, HO2.out, OpsN.nil _ _, HE2.out, by have := Hsz2.out; have := HOb.out; omega⟩
  case round =>
    clear HC2 HR2 HF2 Hf2 HO2 HE2
    obtain ⟨j, i, av, cv, rfl, hij, hjn, hk, bC, bR, bF, bf, bO, hown, hX, hbs⟩ := hrel
    have hn1 := Hn1.out
    by_cases hin : j = n
    · have q1 : ¬ (0 : Int) ≤ i := by omega
      have q1' : decide ((0 : Int) ≤ i) = false := df q1
      subst hin
      rw [List.take_of_length_le (by rw [invO_len, Hl.out]; omega)] at hown
      have y0 := bO.x0; have y1 := bO.x1; have y2 := bO.x2
      have r0 := bR.x0; have r1 := bR.x1; have r2 := bR.x2; have g0 := bR.f 0; have g1 := bR.f 1; have g2 := bR.f 2
      have f0 := bF.x0; have f1 := bF.x1; have k0 := bF.f 0; have k1 := bF.f 1
      have d0 := bf.x0; have d1 := bf.x1
      have zC := (putCF_C bR (show H + 1 ≠ H + 2 by omega) qb bi av j cv 0 0).drew
      have zF := (putCF_F bF (show H + 1 ≠ H + 2 by omega) qb bi av j cv 0 0).drew
      obtain ⟨xs, hx⟩ := hown
      have hP1 : Only (H + 1) wr (((wr.setCell ⟨H + 1, 0, none⟩ (.int .i64 qb)).setCell ⟨H + 1, 1, none⟩ (.int .i64 bi)).setCell ⟨H + 1, 2, none⟩ (.slice av j cv)) := (((Only.refl _ _).setCell _ _).setCell _ _).setCell _ _
      have hx1 := hx.only bR.row (by decide) hP1 (by have := HOb.out; have := Hlo.out; omega)
      have bF1 := bF.kept hP1 (by omega)
      have hx2 := hx1.only bF1.row (by decide) (only2 _ (H + 2) (.int .i64 0) (.int .i64 0)) (by have := HOb.out; have := Hlo.out; omega)
      have zO : OpsN (putCF wr (H + 1) (H + 2) qb bi av j cv 0 0).drew (Ob + 1) (.slice av j cv) (invO ops) := OpsN.ext ⟨xs, hx2⟩ (cdrew (Ext.refl _))
      have zE : Ext w (putCF wr (H + 1) (H + 2) qb bi av j cv 0 0).drew := Below.drew (putCF_ext hX (show w.heap.size ≤ H + 1 by omega) (show w.heap.size ≤ H + 2 by omega) _ _ _ _ _ _ _)
      obtain ⟨Wz, hWz⟩ : ∃ Wz, putCF wr (H + 1) (H + 2) qb bi av j cv 0 0 = Wz := ⟨_, rfl⟩
      rw [hWz] at zC zF zO zE
      unfold putCF at hWz
      have HWz := Lib.hid hWz; have HzE := Lib.hid zE; have HzO := Lib.hid (zO.down (show H ≤ Ob + 1 by have := HOb.out; have := Hlo.out; omega))
      have v0 := zC.x0; have v1 := zC.x1; have v2 := zC.x2; have v3 := zF.x0; have v4 := zF.x1
      clear zC zF zO zE hWz bC bR bF bf bO hX hx hx1 hx2 hP1 bF1 hjn hk hbs hij hn1
      go_upto_region 12 with fail
      go_region
      go_wp2_with fail
      rw [HWz.out]
      exact bodyPost_ret (v := .tuple #[.agg #[.int .i64 qb, .int .i64 bi, .slice av j cv], .agg #[.int .i64 0, .int .i64 0]]) (by simp [results, Tryd.results8, go_sem, v0, v1, v2, v3, v4]) rfl ⟨⟨av, cv, rfl, HzO.out⟩, HzE.out⟩
    · obtain ⟨m, rfl⟩ : ∃ m : Nat, i = (m : Int) := ⟨i.toNat, by omega⟩
      have q1 : (0 : Int) ≤ (m : Int) := by omega
      have q1' : decide ((0 : Int) ≤ (m : Int)) = true := dt q1
      have q2 : (m : Int) < (n : Int) := by omega
      obtain ⟨gg, hg⟩ : ∃ g, ops[m]? = some g := ⟨_, List.getElem?_eq_getElem (by rw [Hl.out]; omega)⟩
      have hst : (invO ops).take (j + 1) = (invO ops).take j ++ [undoO gg] := by rw [List.take_add_one, invO_get (m := m) (by rw [Hl.out]; omega), hg]; rfl
      have hli : ((invO ops).take j).length = j := by rw [List.length_take, invO_len, Hl.out]; omega
      obtain ⟨bo, oo, rfl⟩ := (Hops.out.ext hX).some_of (by omega)
      obtain ⟨a1, m1, c1, a2, m2, c2, t0, t1, t2, t3, t4, t5, hLo⟩ := (Hops.out.ext hX).at m gg hg
      obtain ⟨⟨hbl1, hbl2⟩, hkr⟩ := Hfit.out gg (List.mem_of_getElem? hg)
      obtain ⟨ok, hok⟩ : ∃ x, opp gg.k = x := ⟨_, rfl⟩
      have Hok := Lib.hid hok
      have hokE := opp_eq hkr
      rw [hok] at hokE
      have hug : undoO gg = ⟨gg.kind, ok, gg.ctl, gg.q, gg.bit, gg.cnd⟩ := by unfold undoO; rw [hok]
      rw [hug] at hst
      obtain ⟨kd, kk', ctl, qq, bb, cnd⟩ := gg
      simp only at t0 t1 t3 t4 hbl1 hbl2 hkr hokE hst
      have hn1' : m1 ≤ 1000 := by rw [← hLo.i1.1]; exact hbl1
      have hn2' : m2 ≤ 1000 := by rw [← hLo.i2.1]; exact hbl2
      have HCp := Lib.hid (copyOp_N ⟨kd, kk', ctl, qq, bb, cnd⟩ a1 m1 c1 a2 m2 c2 wr hLo (by omega) (by omega))
      simp only at HCp
      have v2 := bC.x2
      have HC := Lib.hid bC; have HR := Lib.hid bR; have HF := Lib.hid bF; have Hf := Lib.hid bf; have HO := Lib.hid bO; have HXr := Lib.hid hX; have Hbs := Lib.hid hbs; have Hst := Lib.hid hst; have Hli := Lib.hid hli; have Hkr := Lib.hid hkr; have HokE := Lib.hid hokE; have Hown := Lib.hid hown; have Hij := Lib.hid hij; have Hk := Lib.hid hk
      clear bC bR bF bf bO hX hbs hst hli hkr hokE hown hLo hbl1 hbl2 hug hg Hok hok hij hk
      go_wp2_with fail
      refine HCp.out.mono ?_
      rintro e w4 ⟨⟨a3, c3, a5, c5, rfl, O4⟩, hx4⟩
      clear t0 t1 t2 t3 t4 t5 v2 HCp
      have EU := ext_al w4 (.cells #[.int .i64 kd, .int .i64 kk', .slice a3 m1 c3, .int .i64 qq, .int .i64 bb, .slice a5 m2 c5] 43)
      have bx := opbx_new w4 kd kk' a3 m1 c3 qq bb a5 m2 c5
      have e1 := bx.x1; have f1 := bx.f 1
      have hx5 := hx4.trans EU
      have HO4 := Lib.hid (O4.ext EU); have Hbx := Lib.hid bx; have HE5 := Lib.hid hx5
      have hBx : wr.heap.size ≤ w4.heap.size := hx4.size
      clear O4 EU bx hx4 hx5
      go_upto_if 36 with fail
      generalize w4.alloc (.cells #[.int .i64 kd, .int .i64 kk', .slice a3 m1 c3, .int .i64 qq, .int .i64 bb, .slice a5 m2 c5] 43) = U at *
      obtain ⟨Bx, hBxe⟩ : ∃ y, w4.heap.size = y := ⟨_, rfl⟩
      rw [hBxe] at hBx Hbx e1 f1 ⊢
      clear hBxe
      go_cut [] from 24 to 46 (fun wx => OpBx wx Bx kd ok a3 m1 c3 qq bb a5 m2 c5 ∧ Only Bx U wx)
      case first =>
        by_cases h0 : 0 < kk'
        · have p1 : decide ((0 : Int) < kk') = true := dt h0
          have wk : IntKind.i64.wrap (16 - kk') = ok := by rw [IntKind.wrap_i64, HokE.out, if_neg (by omega)]; have := Hkr.out; omega
          go_wp2_with fail
          go_meet
          exact ⟨Hbx.out.set1 ok, only1 U Bx 1 _⟩
        · have p1 : decide ((0 : Int) < kk') = false := df h0
          have hok0 : kk' = ok := by rw [HokE.out]; have := Hkr.out; rw [if_pos (by omega)]; omega
          have Hok0 := Lib.hid hok0
          clear hok0
          go_wp2_with fail
          go_meet
          exact ⟨by rw [← Hok0.out]; exact Hbx.out, Only.refl _ _⟩
      case rest =>
      obtain ⟨bx, hOn⟩ := hcut
      obtain ⟨xs, hx0⟩ := Hown.out
      have hki := only_ints Hbx.out.row (by decide) hOn
      have hxc : OpsX wc (Ob + 1) (.slice av j cv) ((invO ops).take j) xs := (hx0.ext HE5.out).keep (fun g hg => hOn.block g (fun e => by have := (own_lt hx0.own g hg).2; omega)) hki
      have O5 := (HO4.out.keep hki)
      have hbs := Hbs.out
      have hO1 := HOb.out; have hO2 := Hlo.out
      have cC := (HC.out.ext HE5.out).kept hOn (by omega); have cR := (HR.out.ext HE5.out).kept hOn (by omega); have cF := (HF.out.ext HE5.out).kept hOn (by omega); have cf := (Hf.out.ext HE5.out).kept hOn (by omega); have cO := (HO.out.ext HE5.out).kept hOn (by omega)
      have hEc : Ext w wc := ext_only (HXr.out.trans HE5.out) hOn (by omega)
      have hsc : Bx < wc.heap.size := by rw [hOn.size]; exact Hbx.out.lt
      have Hxo := Lib.hid hx0.old
      have e0 := bx.x0; have e1 := bx.x1; have e2 := bx.x2; have e3 := bx.x3; have e4 := bx.x4; have e5 := bx.x5
      have y2 := cO.x2
      have Hxc := Lib.hid hxc; have HO5 := Lib.hid O5; have HcC := Lib.hid cC; have HcR := Lib.hid cR; have HcF := Lib.hid cF; have Hcf := Lib.hid cf; have HcO := Lib.hid cO; have HEc := Lib.hid hEc
      have Hsc := Lib.hid hsc; have HBx := Lib.hid hBx
      clear bx hOn hx0 hki hxc O5 hbs hO1 hO2 cC cR cF cf cO hEc hsc hBx HC HR HF Hf HO HE5 HO4 Hbx HXr Hown HokE
      have HOw := Lib.hid (show ∀ o, (wc.alloc o).ownsRow (Ob + 1) 43 6 (.slice av j cv) j xs from fun o => by have h := Hxc.out.own.alloc o; rw [Hli.out] at h; exact h)
      have wm : ∀ z : Int, z = (m : Int) - 1 → IntKind.i64.wrap ((m : Int) - 1) = z := fun z hz => by rw [IntKind.wrap_i64, hz]; omega
      obtain ⟨i', hi'⟩ : ∃ y : Int, y = (m : Int) - 1 := ⟨_, rfl⟩
      have wi := wm i' hi'
      have Hi' := Lib.hid hi'
      clear wm hi'
      go_wp2_with (at_builtin; refine wpList_append_own _ rfl _ _ 22 rfl (Ob + 1) 43 i0 (.agg #[.int .i64 0, .int .i64 0, .slice none 0 0, .int .i64 0, .int .i64 0, .slice none 0 0]) 6 80 Tryd.underlying22 hi hz0 hz1 hz2 rfl (by decide) _ j xs rfl (HOw.out _) ⟨wc.heap.size, 0, none⟩ 1 1 [.int .i64 kd, .int .i64 ok, .slice a3 m1 c3, .int .i64 qq, .int .i64 bb, .slice a5 m2 c5] rfl rfl (new_op wc _ _ _ _ _ _ _ _ _ _ _) (one_op _ _ _ _ _ _ _ _ _ _) (by unfold maxLen; omega) (by omega) (by have := Hbs.out; have := HBx.out; have := Hsc.out; simp; omega) ?_; intro v' w7 hown' hgrow' _; obtain ⟨g7, c7, rfl⟩ := slice_of_own hown' (by omega); have hkind := PtKind (Hxc.out.own.alloc (.cells #[.int .i64 kd, .int .i64 ok, .slice a3 m1 c3, .int .i64 qq, .int .i64 bb, .slice a5 m2 c5] 43)); have HO7 := Lib.hid (CiB_grown hgrow' hkind (HcO.out.ext (ext_al wc _)) (by omega)); have y7 := HO7.out.x2; have f7 := HO7.out.f 2)
      have Ea := ext_al wc (.cells #[.int .i64 kd, .int .i64 ok, .slice a3 m1 c3, .int .i64 qq, .int .i64 bb, .slice a5 m2 c5] 43)
      have hO1 := HOb.out; have hO2 := Hlo.out
      have hk7 := grown_ints hgrow' hkind
      have own7 := OpsX.snoc (g := ⟨kd, ok, ctl, qq, bb, cnd⟩) (Hxc.out.ext Ea) (by rw [Hli.out]; exact hown') hk7 Hxo.out Hbs.out ⟨((HO5.out.ext Ea).keep hk7).i1, ((HO5.out.ext Ea).keep hk7).i2, ((HO5.out.ext Ea).keep hk7).ne⟩
      have hOo := only1 w7 Ob 2 (.slice (some ⟨g7, 0, none⟩) (j + 1) c7)
      have Hown8 := Lib.hid (show OpsN _ (Ob + 1) _ _ from ⟨_, own7.only HO7.out.row (by decide) hOo (by omega)⟩)
      have HO8 := Lib.hid (HO7.out.set2 (some ⟨g7, 0, none⟩) (j + 1) c7)
      have HC8 := Lib.hid ((CiB_grown hgrow' hkind (HcC.out.ext Ea) (by omega)).kept hOo (by omega)); have HR8 := Lib.hid ((CiB_grown hgrow' hkind (HcR.out.ext Ea) (by omega)).kept hOo (by omega)); have HF8 := Lib.hid ((FtB_grown hgrow' hkind (HcF.out.ext Ea) (by omega)).kept hOo (by omega)); have Hf8 := Lib.hid ((FtB_grown hgrow' hkind (Hcf.out.ext Ea) (by omega)).kept hOo (by omega))
      have HE8 := Lib.hid (ext_only (grown_ext (HEc.out.trans Ea) hgrow' (fun k hk => by have := (hkind k hk).1; omega)) hOo (by omega))
      have Hs8 := Lib.hid (show Ob + 1 ≤ (w7.setCell ⟨Ob, 2, none⟩ (.slice (some ⟨g7, 0, none⟩) (j + 1) c7)).heap.size by rw [hOo.size]; have h1 := hgrow'.size; have h2 := Ea.size; have := Hbs.out; have := HBx.out; have := Hsc.out; omega)
      clear Ea hk7 own7 hOo hgrow' hown' hkind
      go_roundg (n - (j + 1))
      case measure => have := Hk.out; omega
      case rel => exact ⟨j + 1, i', some ⟨g7, 0, none⟩, c7, rfl, by have := Hi'.out; have := Hij.out; omega, by omega, rfl, HC8.out, HR8.out, HF8.out, Hf8.out, HO8.out, by rw [Hst.out]; exact Hown8.out, HE8.out, Hs8.out⟩

end Go.Proofs.YtapolidgocfbjaaDoor
