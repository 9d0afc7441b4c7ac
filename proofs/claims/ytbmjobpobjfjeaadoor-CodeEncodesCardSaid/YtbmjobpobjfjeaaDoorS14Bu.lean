/-
  The program: what brings generators home, in memory. The program: (*homing).do: one gate more, and all generators taken through it. Ways home, in plain lists. The program: (*homing).turnToZ. The program: (*homing).gather. Ways home lead home: in plain numbers.
-/
import Derived.Test.YtbmjobpobjfjeaaDoorProg
import Derived.Test.YtbmjobpobjfjeaaDoorRows
import Derived.BigQuiet
import Derived.Deep.AppendLies
import Derived.Deep.Cut
import Derived.Deep.CutRange
import Derived.Deep.LoopGhost
import Derived.Deep.QuietTactic
import Derived.Deep.RegionHeld3
import Derived.DeepKeys4
import Derived.Defers
import Derived.Laws.AppendOwnNone
import Derived.Laws.Bits64b
import Derived.Laws.Concat
import Derived.Laws.CopyOwn
import Derived.Laws.IdiomStrings
import Derived.Laws.ResultCell
import Derived.Lib.AppendStr
import Derived.Lib.AppendZeros
import Derived.Lib.AppendZerosOnto
import Derived.Lib.BitFns
import Derived.Lib.Hide
import Derived.Lib.ItoaMem
import Derived.Lib.ItoaNum
import Derived.Lib.Strings
import Derived.LoopIn
import Derived.LoopNIn
import Derived.Maps.AppendAt
import Derived.Maps.OwnSet
import Derived.OwnWalk
import Derived.OwnWalkIn
import Derived.RangeFuncBound
import Derived.RangeFuncBox
import Derived.RangeFuncCalls
import Derived.RangeFuncGives
import Derived.RangeFuncLeaves
import Derived.RangeFuncNested
import Derived.RangeFuncStops
import Derived.Recover
import Derived.Shelf.Abstract
import Derived.Shelf.Bits.Mul64
import Derived.Shelf.RegionOpen
import Derived.Shelf.Small.Bits
import Derived.Shelf.Small.Strs
import Derived.Shelf.Strings.Search1
import Derived.Sort.MapsRangeIn
import Derived.TacticsInMore
import Derived.WalkKit
import Derived.WalkLawsBesides
import Derived.WalkSpells
import Derived.Test.YtbmjobpobjfjeaaDoorS00Ca
import Derived.Test.YtbmjobpobjfjeaaDoorShelf
import Derived.Test.YtbmjobpobjfjeaaDoorS02Cn
import Derived.Test.YtbmjobpobjfjeaaDoorS03Ib
import Derived.Test.YtbmjobpobjfjeaaDoorS04Ij
import Derived.Test.YtbmjobpobjfjeaaDoorS05Ir
import Derived.Test.YtbmjobpobjfjeaaDoorS06Is
import Derived.Test.YtbmjobpobjfjeaaDoorS07It
import Derived.Test.YtbmjobpobjfjeaaDoorS08Ix
import Derived.Test.YtbmjobpobjfjeaaDoorS09Aa
import Derived.Test.YtbmjobpobjfjeaaDoorS10Dd
import Derived.Test.YtbmjobpobjfjeaaDoorS11Bl
import Derived.Test.YtbmjobpobjfjeaaDoorS12Kg
import Derived.Test.YtbmjobpobjfjeaaDoorS13Bn
namespace Go.Proofs.YtbmjobpobjfjeaaDoor
open Go.RowKit

/-- Paulis in a block. -/
structure GnB (w : World) (g : Nat) (l : List QP) : Prop where
  row : ∃ cur, w.heap[g]? = some (.cells cur 66 (0, 0))
  c : ∀ t p, l[t]? = some p → w.cell? ⟨g, t * 3, none⟩ = some (.int .u16 (p.x : Int)) ∧ w.cell? ⟨g, t * 3 + 1, none⟩ = some (.int .u16 (p.z : Int)) ∧ w.cell? ⟨g, t * 3 + 2, none⟩ = some (.bool p.m)
section
variable {w w' : World} {g : Nat} {l : List QP}
theorem GnB.lt (h : GnB w g l) : g < w.heap.size := by obtain ⟨cur, hc⟩ := h.row; exact (Array.getElem?_eq_some_iff.1 hc).1
theorem GnB.keep (h : GnB w g l) (hk : w'.heap[g]? = w.heap[g]?) : GnB w' g l := by
  obtain ⟨cur, hc⟩ := h.row
  exact ⟨⟨cur, hk.trans hc⟩, fun t p ht => by
    obtain ⟨a, b, c⟩ := h.c t p ht
    exact ⟨(World.cell?_of_block (a := ⟨g, t * 3, none⟩) hk).trans a, (World.cell?_of_block (a := ⟨g, t * 3 + 1, none⟩) hk).trans b, (World.cell?_of_block (a := ⟨g, t * 3 + 2, none⟩) hk).trans c⟩⟩
theorem GnB.ext (h : GnB w g l) (k : Ext w w') : GnB w' g l := h.keep (k.block g h.lt)
theorem GnB.f (h : GnB w g l) (o : Nat) : w.frozen? ⟨g, o, none⟩ = false := by obtain ⟨cur, hc⟩ := h.row; exact frozen_of_row w g o _ _ hc
theorem GnB.put (h : GnB w g l) (i : Nat) (hi : i < l.length) (q : QP) : GnB (((w.setCell ⟨g, i * 3, none⟩ (.int .u16 (q.x : Int))).setCell ⟨g, i * 3 + 1, none⟩ (.int .u16 (q.z : Int))).setCell ⟨g, i * 3 + 2, none⟩ (.bool q.m)) g (l.set i q) := by
  obtain ⟨cur, hc⟩ := h.row
  have r1 := heap_setCell_same w g (i * 3) _ _ (.int .u16 (q.x : Int)) hc
  have r2 := heap_setCell_same _ g (i * 3 + 1) _ _ (.int .u16 (q.z : Int)) r1
  have r3 := heap_setCell_same _ g (i * 3 + 2) _ _ (.bool q.m) r2
  obtain ⟨e0, e1, e2⟩ := h.c i _ (List.getElem?_eq_getElem hi)
  rw [cell_of_row w g (i * 3) _ _ (0, 0) hc] at e0
  rw [cell_of_row w g (i * 3 + 1) _ _ (0, 0) hc] at e1
  rw [cell_of_row w g (i * 3 + 2) _ _ (0, 0) hc] at e2
  have hs0 := (Array.getElem?_eq_some_iff.1 e0).1
  have hs1 := (Array.getElem?_eq_some_iff.1 e1).1
  have hs2 := (Array.getElem?_eq_some_iff.1 e2).1
  refine ⟨⟨_, r3⟩, fun t p ht => ?_⟩
  rw [cell_of_row _ g (t * 3) _ _ (0, 0) r3, cell_of_row _ g (t * 3 + 1) _ _ (0, 0) r3, cell_of_row _ g (t * 3 + 2) _ _ (0, 0) r3]
  simp only [Array.getElem?_setIfInBounds, Array.size_setIfInBounds]
  by_cases e : i = t
  · subst e
    rw [List.getElem?_set_self hi] at ht
    cases ht
    refine ⟨?_, ?_, ?_⟩
    · rw [if_neg (by omega), if_neg (by omega), if_pos rfl, if_pos hs0]
    · rw [if_neg (by omega), if_pos rfl, if_pos hs1]
    · rw [if_pos rfl, if_pos hs2]
  · rw [List.getElem?_set_ne e] at ht
    obtain ⟨a, b, c⟩ := h.c t p ht
    rw [cell_of_row w g (t * 3) _ _ (0, 0) hc] at a
    rw [cell_of_row w g (t * 3 + 1) _ _ (0, 0) hc] at b
    rw [cell_of_row w g (t * 3 + 2) _ _ (0, 0) hc] at c
    refine ⟨?_, ?_, ?_⟩
    · rw [if_neg (by omega), if_neg (by omega), if_neg (by omega)]; exact a
    · rw [if_neg (by omega), if_neg (by omega), if_neg (by omega)]; exact b
    · rw [if_neg (by omega), if_neg (by omega), if_neg (by omega)]; exact c
end

/-- The homing in memory. -/
structure HmS (u w : World) (base B g n ng : Nat) (ag : Option Addr) (cg : Nat) (l : List QP) (v : Value) (ops : List Gop) : Prop where
  e : Ext u w
  row : w.heap[B]? = some (.cells #[.int .i64 (n : Int), .slice ag ng cg, v] 81 (0, 0))
  gl : l.length = ng
  ga : ng = 0 ∨ (ag = some ⟨g, 0, none⟩ ∧ GnB w g l)
  os : OpsO w base v ops
  o : u.heap.size ≤ B ∧ B < base ∧ u.heap.size ≤ g ∧ g < base ∧ g ≠ B ∧ base ≤ w.heap.size
section
variable {u w w' : World} {base B g n ng : Nat} {ag : Option Addr} {cg : Nat} {l : List QP} {v : Value} {ops : List Gop}
theorem HmS.lt (h : HmS u w base B g n ng ag cg l v ops) : B < w.heap.size := (Array.getElem?_eq_some_iff.1 h.row).1
theorem HmS.ext (h : HmS u w base B g n ng ag cg l v ops) (x : Ext w w') : HmS u w' base B g n ng ag cg l v ops := by
  obtain ⟨o1, o2, o3, o4, o5, o6⟩ := h.o
  exact ⟨h.e.trans x, (x.block B h.lt).trans h.row, h.gl, h.ga.imp id fun k => ⟨k.1, k.2.ext x⟩, h.os.ext x, o1, o2, o3, o4, o5, Nat.le_trans o6 x.size⟩
theorem HmS.x0 (h : HmS u w base B g n ng ag cg l v ops) : w.cell? ⟨B, 0, none⟩ = some (.int .i64 (n : Int)) := by rw [cell_of_row w B 0 _ _ (0, 0) h.row]; rfl
theorem HmS.x1 (h : HmS u w base B g n ng ag cg l v ops) : w.cell? ⟨B, 1, none⟩ = some (.slice ag ng cg) := by rw [cell_of_row w B 1 _ _ (0, 0) h.row]; rfl
theorem HmS.x2 (h : HmS u w base B g n ng ag cg l v ops) : w.cell? ⟨B, 2, none⟩ = some v := by rw [cell_of_row w B 2 _ _ (0, 0) h.row]; rfl
theorem HmS.at (h : HmS u w base B g n ng ag cg l v ops) {i : Nat} {p : QP} (hp : l[i]? = some p) : ag = some ⟨g, 0, none⟩ ∧ GnB w g l ∧ i < ng := by
  have hi := (List.getElem?_eq_some_iff.1 hp).1
  rw [h.gl] at hi
  rcases h.ga with h0 | h0
  · omega
  · exact ⟨h0.1, h0.2, hi⟩
/-- One Pauli is written. -/
theorem HmS.put (h : HmS u w base B g n ng ag cg l v ops) {i : Nat} (hi : i < ng) (q : QP) : HmS u (((w.setCell ⟨g, i * 3, none⟩ (.int .u16 (q.x : Int))).setCell ⟨g, i * 3 + 1, none⟩ (.int .u16 (q.z : Int))).setCell ⟨g, i * 3 + 2, none⟩ (.bool q.m)) base B g n ng ag cg (l.set i q) v ops := by
  obtain ⟨o1, o2, o3, o4, o5, o6⟩ := h.o
  rcases h.ga with h0 | ⟨ha, hg⟩
  · omega
  obtain ⟨cur, hc⟩ := hg.row
  have hO : Only g w (((w.setCell ⟨g, i * 3, none⟩ (.int .u16 (q.x : Int))).setCell ⟨g, i * 3 + 1, none⟩ (.int .u16 (q.z : Int))).setCell ⟨g, i * 3 + 2, none⟩ (.bool q.m)) := (((Only.refl g w).setCell _ _).setCell _ _).setCell _ _
  refine ⟨Below.setCell (Below.setCell (Below.setCell h.e (p := ⟨g, i * 3, none⟩) o3 _) (p := ⟨g, i * 3 + 1, none⟩) o3 _) (p := ⟨g, i * 3 + 2, none⟩) o3 _, (hO.block B (Ne.symm o5)).trans h.row, by rw [List.length_set]; exact h.gl, Or.inr ⟨ha, hg.put i (by rw [h.gl]; exact hi) q⟩, h.os.far hc (by decide) (by decide) hO, o1, o2, o3, o4, o5, by rw [hO.size]; exact o6⟩
end
/-- One operation more, and the variable that holds them. -/
theorem hm_step {u wa w7 : World} {base B g n ng : Nat} {ag : Option Addr} {cg : Nat} {l : List QP} {v v7 : Value} {ops : List Gop} {xs : List Value} {o : Gop} {a1 : Option Addr} {n1 c1 : Nat} {a2 : Option Addr} {n2 c2 : Nat}
    (h : HmS u wa base B g n ng ag cg l v ops) (hown : wa.ownsRow base 62 6 v ops.length xs)
    (hrows : ∀ t g, ops[t]? = some g → ∃ (a1 : Option Addr) (n1 c1 : Nat) (a2 : Option Addr) (n2 c2 : Nat), xs[t * 6]? = some (.int .i64 g.kind) ∧ xs[t * 6 + 1]? = some (.int .i64 g.k) ∧ xs[t * 6 + 2]? = some (.slice a1 n1 c1) ∧ xs[t * 6 + 3]? = some (.int .i64 g.q) ∧ xs[t * 6 + 4]? = some (.int .i64 g.bit) ∧ xs[t * 6 + 5]? = some (.slice a2 n2 c2) ∧ OpO wa g a1 n1 c1 a2 n2 c2)
    (hO : OpO wa o a1 n1 c1 a2 n2 c2) (h7 : w7.ownsRow base 62 6 v7 (ops.length + 1) (xs ++ [.int .i64 o.kind, .int .i64 o.k, .slice a1 n1 c1, .int .i64 o.q, .int .i64 o.bit, .slice a2 n2 c2])) (hg : wa.grownBy w7 v.ownBlock) :
    w7.cell? ⟨B, 2, none⟩ = some v ∧ w7.frozen? ⟨B, 2, none⟩ = false ∧ HmS u (w7.setCell ⟨B, 2, none⟩ v7) base B g n ng ag cg l v7 (ops ++ [o]) := by
  obtain ⟨o1, o2, o3, o4, o5, o6⟩ := h.o
  have hne : ∀ k, k < base → some k ≠ v.ownBlock := fun k hk e => by have := (own_lt hown k e.symm).1; omega
  have hB7 := (hg.block B h.lt (hne B o2)).trans h.row
  have hE7 : Ext u w7 := grown_ext h.e hg (fun j hj => Nat.le_trans (by omega) (own_lt hown j hj).1)
  have hk : ∀ (b : Nat) (cur : Array Value) (fr : Nat × Nat), wa.heap[b]? = some (.cells cur 3 fr) → w7.heap[b]? = wa.heap[b]? := fun b cur fr hb => hg.block b (Array.getElem?_eq_some_iff.1 hb).1 (fun e => by
    obtain ⟨_, cs', fr', e2⟩ := PtKind hown b e.symm
    rw [hb] at e2
    cases e2)
  have os7 : OpsO w7 base v7 (ops ++ [o]) := OpsO.snoc h7 hown.1 hrows (fun _ _ _ _ _ _ _ k => k.keep hg.size hk) (hO.keep hg.size hk)
  have on1 : Only B w7 (w7.setCell ⟨B, 2, none⟩ v7) := (Only.refl _ _).setCell _ _
  refine ⟨by rw [cell_of_row w7 B 2 _ _ (0, 0) hB7]; rfl, frozen_of_row _ B 2 _ _ hB7, cput hE7 o1 _, ?_, h.gl, ?_, os7.only hB7 (by decide) on1 (by rw [on1.size]; exact Nat.le_refl _) o2, o1, o2, o3, o4, o5, by rw [on1.size]; exact Nat.le_trans o6 hg.size⟩
  · have := heap_setCell_same w7 B 2 _ _ v7 hB7
    simpa using this
  · refine h.ga.imp id fun k => ⟨k.1, (k.2.keep (hg.block g k.2.lt (hne g o4))).keep (on1.block g o5)⟩
end Go.Proofs.YtbmjobpobjfjeaaDoor
namespace Go.Proofs.YtbmjobpobjfjeaaDoor
open Go.RowKit

set_option maxHeartbeats 400000 in
/-- '[]api.Op{x}' in a drawn region. -/
theorem stepK_buildW {ops : Array Oper} {o : Oper} {a : Act} {K : Act → World → Prop} {Q : Exit → Act → World → Prop} {E : Prop} {w : World} (hgd : o.guard = none) (x : Operand) (ho : o.op = .buildSlice 25 1 #[(0, x)]) (k0 k1 : Int) (a1 : Option Addr) (n1 c1 : Nat) (k3 k4 : Int) (a2 : Option Addr) (n2 c2 : Nat)
    (hx : a.eval x = .agg #[.int .i64 k0, .int .i64 k1, .slice a1 n1 c1, .int .i64 k3, .int .i64 k4, .slice a2 n2 c2]) (h : K (a.put o.dst (.slice (some ⟨w.heap.size, 0, none⟩) 1 1)) (w.alloc (.cells #[.int .i64 k0, .int .i64 k1, .slice a1 n1 c1, .int .i64 k3, .int .i64 k4, .slice a2 n2 c2] 62))) :
    if Region.wanted o (yielded ops a.tmps) = true then Oper.wp Tryd.prog o a w K Q else E := by
  have hw : Region.wanted o (yielded ops a.tmps) = true := by simp [Region.wanted, hgd]
  rw [if_pos hw]
  obtain ⟨od, oo, ot, opp, oa, og⟩ := o
  simp only at ho
  subst ho
  have HH := Lib.hid h
  clear h
  unfold Oper.wp execOp
  simp only [hx, List.map_toArray, List.map_cons, List.map_nil]
  go_simp
  exact HH.out
/-- What is done so far: the first i Paulis are taken through. -/
def doL (A : QP → QP) (l : List QP) (i : Nat) : List QP := (l.take i).map A ++ l.drop i
theorem doL_at (A : QP → QP) (l : List QP) (i : Nat) : (doL A l i)[i]? = l[i]? := by
  unfold doL
  by_cases h : i ≤ l.length
  · rw [List.getElem?_append_right (by simp; omega), List.length_map, List.length_take, Nat.min_eq_left h, Nat.sub_self, List.getElem?_drop, Nat.add_zero]
  · rw [List.getElem?_eq_none (by simp; omega), List.getElem?_eq_none (by omega)]
theorem doL_set (A : QP → QP) (l : List QP) {i : Nat} {p : QP} (h : l[i]? = some p) : (doL A l i).set i (A p) = doL A l (i + 1) := by
  obtain ⟨hi, he⟩ := List.getElem?_eq_some_iff.1 h
  refine List.ext_getElem? fun j => ?_
  unfold doL
  by_cases e : i = j
  · subst e
    rw [List.getElem?_set_self (by simp; omega), List.getElem?_append_left (by simp; omega), List.getElem?_map, List.getElem?_take, if_pos (by omega), h]
    rfl
  · rw [List.getElem?_set_ne e]
    by_cases hj : j < i
    · rw [List.getElem?_append_left (by simp; omega), List.getElem?_append_left (by simp; omega), List.getElem?_map, List.getElem?_map, List.getElem?_take, List.getElem?_take, if_pos hj, if_pos (by omega)]
    · rw [List.getElem?_append_right (by simp; omega), List.getElem?_append_right (by simp; omega), List.getElem?_drop, List.getElem?_drop]
      congr 1
      simp
      omega
theorem doL_all (A : QP → QP) (l : List QP) : doL A l l.length = l.map A := by simp [doL]
theorem doL_zero (A : QP → QP) (l : List QP) : doL A l 0 = l := by simp [doL]
theorem act_ok {n : Nat} (hn : n ≤ 16) {o : Gop} (ho : WOk n o) {p : QP} (hp : p.ok) : (actW o p).ok := by
  cases ho with
  | x _ => rw [act_x]; exact ok_flip hp
  | cx h h2 _ => rw [act_cx]; exact ok_on (by omega) (by omega) hp
  | h _ => rw [act_h]; exact ok_fork hp
  | p _ _ => rw [act_p]; exact itG_ok (fun _ k => ok_quar k) _ _ hp
/-- What do comes to. -/
def DoR (u : World) (base B g n ng : Nat) (ag : Option Addr) (cg : Nat) (l : List QP) (ops : List Gop) (e : Ending) (w' : World) : Prop := (∃ x, e = .returned x) ∧ ∃ v', HmS u w' base B g n ng ag cg l v' ops

set_option maxRecDepth 100000 in
set_option maxHeartbeats 8000000 in
theorem do_any {u w : World} {base B g n ng : Nat} {ag : Option Addr} {cg : Nat} {l : List QP} {v : Value} {ops : List Gop} (h : HmS u w base B g n ng ag cg l v ops) (hn : n ≤ 16) (hng : ng ≤ 16) (hok : ∀ p ∈ l, p.ok) (hlen : ops.length ≤ 10000)
    {o : Gop} (ho : WOk n o) (a1 : Option Addr) (n1 c1 : Nat) (a2 : Option Addr) (n2 c2 : Nat) (hO : OpO w o a1 n1 c1 a2 n2 c2) :
    Calls Tryd.prog 38 #[.pointer (some ⟨B, 0, none⟩), .agg #[.int .i64 o.kind, .int .i64 o.k, .slice a1 n1 c1, .int .i64 o.q, .int .i64 o.bit, .slice a2 n2 c2]] w fun e w' => DoR u base B g n ng ag cg (l.map (actW o)) (ops ++ [o]) e w' := by
  have HG := Lib.hid (fun wx hx => GateOf_any hn ho a1 n1 c1 a2 n2 c2 wx hx)
  have Hact := Lib.hid (fun (p : QP) (hp : p.ok) => act_ok hn ho hp)
  obtain ⟨A, hA⟩ : ∃ A, actW o = A := ⟨_, rfl⟩
  rw [hA] at HG Hact ⊢
  obtain ⟨kd, k, ctl, q, bt, cnd⟩ := o
  simp only at HG ⊢
  have bx := opbx_new w kd k a1 n1 c1 q bt a2 n2 c2
  have E0 := ext_al w (.cells #[.int .i64 kd, .int .i64 k, .slice a1 n1 c1, .int .i64 q, .int .i64 bt, .slice a2 n2 c2] 62)
  obtain ⟨H, hH⟩ : ∃ H, w.heap.size = H := ⟨_, rfl⟩
  obtain ⟨W0, hW0⟩ : ∃ V, w.alloc (.cells #[.int .i64 kd, .int .i64 k, .slice a1 n1 c1, .int .i64 q, .int .i64 bt, .slice a2 n2 c2] 62) = V := ⟨_, rfl⟩
  rw [hW0] at bx E0
  rw [hH] at bx
  have Hh := Lib.hid (h.ext E0); have HO := Lib.hid (hO.ext E0); have Hbx := Lib.hid bx; have HW0 := Lib.hid hW0; have HH := Lib.hid hH; have Hng := Lib.hid hng; have Hok := Lib.hid hok; have Hlen := Lib.hid hlen
  have Hvl := Lib.hid (show ∀ j, v.ownBlock = some j → j < H from fun j hj => by obtain ⟨xs, hx, _⟩ := h.os; rw [← hH]; exact (own_lt hx j hj).2)
  have Hgl := Lib.hid h.gl
  have HbH := Lib.hid (show base ≤ H by rw [← hH]; exact h.o.2.2.2.2.2)
  clear h hO bx E0 hW0 hH hng hok hn ho hA hlen
  go_enter Tryd.func38, Tryd.ntmps38
  go_upto_region 1 with fail
  rw [HW0.out, HH.out]
  have HSt := Lib.hid (fun (w' : World) (hx : Ext W0 w') => (show w'.cell? ⟨B, 2, none⟩ = some v ∧ w'.cell? ⟨H, 0, none⟩ = some (.int .i64 kd) ∧ w'.cell? ⟨H, 1, none⟩ = some (.int .i64 k) ∧ w'.cell? ⟨H, 2, none⟩ = some (.slice a1 n1 c1) ∧ w'.cell? ⟨H, 3, none⟩ = some (.int .i64 q) ∧ w'.cell? ⟨H, 4, none⟩ = some (.int .i64 bt) ∧ w'.cell? ⟨H, 5, none⟩ = some (.slice a2 n2 c2) from ⟨cell_ext Hh.out.x2 hx, cell_ext Hbx.out.x0 hx, cell_ext Hbx.out.x1 hx, cell_ext Hbx.out.x2 hx, cell_ext Hbx.out.x3 hx, cell_ext Hbx.out.x4 hx, cell_ext Hbx.out.x5 hx⟩))
  have hd0 : Ext W0 W0.drew := Below.drew (Ext.refl _)
  refine wp_region_K 10 (fun w' => w'.cell? ⟨B, 2, none⟩ = some v ∧ w'.cell? ⟨H, 0, none⟩ = some (.int .i64 kd) ∧ w'.cell? ⟨H, 1, none⟩ = some (.int .i64 k) ∧ w'.cell? ⟨H, 2, none⟩ = some (.slice a1 n1 c1) ∧ w'.cell? ⟨H, 3, none⟩ = some (.int .i64 q) ∧ w'.cell? ⟨H, 4, none⟩ = some (.int .i64 bt) ∧ w'.cell? ⟨H, 5, none⟩ = some (.slice a2 n2 c2)) (by kernel_rfl) ?_
  show anyK _ _ _ _ _ _ 11 #[false, false, false, false, false, false, false, false, false, false, false] _ _
  refine anyK_take (i := 0) (v := ?_) rfl (by kernel_rfl) (by kernel_rfl) (by kernel_rfl) (N := 11) (by kernel_rfl) (by kernel_rfl) (by kernel_rfl) (fun _ _ _ h => h) (Or.inl ⟨by rfl, ?_⟩) (HSt.out _ hd0) ?_
  rotate_left 1
  · intro w hSw
    go_simp
    try with_reducible rfl
  show anyK _ _ _ _ _ _ _ _ (Act.put _ (some 7) _) _
  simp only [Act.put, List.setIfInBounds_toArray, List.set_cons_zero, List.set_cons_succ]
  refine anyK_take (i := 1) (v := ?_) rfl (by kernel_rfl) (by kernel_rfl) (by kernel_rfl) (N := 11) (by kernel_rfl) (by kernel_rfl) (by kernel_rfl) (fun _ _ _ h => h) (Or.inl ⟨by rfl, ?_⟩) (HSt.out _ hd0) ?_
  rotate_left 1
  · intro w hSw
    go_simp
    try with_reducible rfl
  show anyK _ _ _ _ _ _ _ _ (Act.put _ (some 8) _) _
  simp only [Act.put, List.setIfInBounds_toArray, List.set_cons_zero, List.set_cons_succ]
  refine anyK_take (i := 2) (v := ?_) rfl (by kernel_rfl) (by kernel_rfl) (by kernel_rfl) (N := 11) (by kernel_rfl) (by kernel_rfl) (by kernel_rfl) (fun _ _ _ h => h) (Or.inl ⟨by rfl, ?_⟩) (HSt.out _ hd0) ?_
  rotate_left 1
  · intro w hSw
    go_simp
    try with_reducible rfl
  show anyK _ _ _ _ _ _ _ _ (Act.put _ (some 9) _) _
  simp only [Act.put, List.setIfInBounds_toArray, List.set_cons_zero, List.set_cons_succ]
  refine anyK_take (i := 3) (v := ?_) rfl (by kernel_rfl) (by kernel_rfl) (by kernel_rfl) (N := 11) (by kernel_rfl) (by kernel_rfl) (by kernel_rfl) (fun _ _ _ h => h) (Or.inl ⟨by rfl, ?_⟩) (HSt.out _ hd0) ?_
  rotate_left 1
  · intro w hSw
    go_simp
    try with_reducible rfl
  show anyK _ _ _ _ _ _ _ _ (Act.put _ (some 10) _) _
  simp only [Act.put, List.setIfInBounds_toArray, List.set_cons_zero, List.set_cons_succ]
  refine anyK_take (i := 4) (v := ?_) rfl (by kernel_rfl) (by kernel_rfl) (by kernel_rfl) (N := 11) (by kernel_rfl) (by kernel_rfl) (by kernel_rfl) (fun _ _ _ h => h) (Or.inl ⟨by rfl, ?_⟩) (HSt.out _ hd0) ?_
  rotate_left 1
  · intro w hSw
    go_simp
    try with_reducible rfl
  show anyK _ _ _ _ _ _ _ _ (Act.put _ (some 11) _) _
  simp only [Act.put, List.setIfInBounds_toArray, List.set_cons_zero, List.set_cons_succ]
  refine anyK_take (i := 5) (v := ?_) rfl (by kernel_rfl) (by kernel_rfl) (by kernel_rfl) (N := 11) (by kernel_rfl) (by kernel_rfl) (by kernel_rfl) (fun _ _ _ h => h) (Or.inl ⟨by rfl, ?_⟩) (HSt.out _ hd0) ?_
  rotate_left 1
  · intro w hSw
    go_simp
    try with_reducible rfl
  show anyK _ _ _ _ _ _ _ _ (Act.put _ (some 12) _) _
  simp only [Act.put, List.setIfInBounds_toArray, List.set_cons_zero, List.set_cons_succ]
  refine anyK_one (i := 6) (by kernel_rfl) rfl (fun Kk hKk => ?_)
  refine stepK_buildW rfl _ rfl kd k a1 n1 c1 q bt a2 n2 c2 rfl ?_
  have E2 : Ext W0 (W0.drew.alloc (.cells #[.int .i64 kd, .int .i64 k, .slice a1 n1 c1, .int .i64 q, .int .i64 bt, .slice a2 n2 c2] 62)) := hd0.trans (ext_al _ _)
  refine hKk.out _ _ (fun _ => HSt.out _ E2) ?_
  clear hKk Kk
  show anyK _ _ _ _ _ _ _ _ (Act.put _ (some 13) _) _
  simp only [Act.put, List.setIfInBounds_toArray, List.set_cons_zero, List.set_cons_succ]
  obtain ⟨i0, hi0, hz0, hz1, hz2⟩ := info_parts op_info
  have hs2 := Hh.out.ext E2
  obtain ⟨xs, hown, hrows⟩ := hs2.os
  have hO2 := HO.out.ext E2
  obtain ⟨v7, w7, hrun, hown7, hgrow7, _⟩ := run_append_own (P := Tryd.prog) (W0.drew.alloc (.cells #[.int .i64 kd, .int .i64 k, .slice a1 n1 c1, .int .i64 q, .int .i64 bt, .slice a2 n2 c2] 62)) base 25 25 62 i0 (.agg #[.int .i64 0, .int .i64 0, .slice none 0 0, .int .i64 0, .int .i64 0, .slice none 0 0]) 6 80 Tryd.underlying25 hi0 hz0 hz1 hz2 rfl (by decide) v ops.length xs hown ⟨W0.drew.heap.size, 0, none⟩ 1 1 [.int .i64 kd, .int .i64 k, .slice a1 n1 c1, .int .i64 q, .int .i64 bt, .slice a2 n2 c2] rfl (new_op _ _ _ _ _ _ _ _ _ _ _ _) (one_op _ _ _ _ _ _ _ _ _ _) (by unfold maxLen; have := Hlen.out; omega) (by have := Hlen.out; omega) hs2.o.2.2.2.2.2
  obtain ⟨g7, cap7, rfl⟩ := ownsRow_succ hown7
  have HST := Lib.hid (hm_step (o := ⟨kd, k, ctl, q, bt, cnd⟩) hs2 hown hrows hO2 hown7 hgrow7)
  have hk7 : ∀ (b : Nat) (cur : Array Value) (fr : Nat × Nat), (W0.drew.alloc (.cells #[.int .i64 kd, .int .i64 k, .slice a1 n1 c1, .int .i64 q, .int .i64 bt, .slice a2 n2 c2] 62)).heap[b]? = some (.cells cur 3 fr) → w7.heap[b]? = (W0.drew.alloc (.cells #[.int .i64 kd, .int .i64 k, .slice a1 n1 c1, .int .i64 q, .int .i64 bt, .slice a2 n2 c2] 62)).heap[b]? := fun b cur fr hb => hgrow7.block b (Array.getElem?_eq_some_iff.1 hb).1 (fun e => by
    obtain ⟨_, cs', fr', e2⟩ := PtKind hown b e.symm
    rw [hb] at e2
    cases e2)
  have hO7 := hO2.keep hgrow7.size hk7
  have hb7 : OpBx w7 H kd k a1 n1 c1 q bt a2 n2 c2 := ⟨(hgrow7.block H (Nat.lt_of_lt_of_le Hbx.out.lt E2.size) (fun e => by have := Hvl.out H e.symm; omega)).trans (Hbx.out.ext E2).row⟩
  have on1 : Only B w7 (w7.setCell ⟨B, 2, none⟩ (.slice (some ⟨g7, 0, none⟩) (ops.length + 1) cap7)) := (Only.refl _ _).setCell _ _
  have hBr7 : ∃ cs, w7.heap[B]? = some (.cells cs 81 (0, 0)) := ⟨_, (hgrow7.block B (Nat.lt_of_lt_of_le Hh.out.lt E2.size) (fun e => by have := (own_lt hown B e.symm).1; have := Hh.out.o.2.1; omega)).trans ((E2.block B Hh.out.lt).trans Hh.out.row)⟩
  obtain ⟨csB, hBr⟩ := hBr7
  have HO8 := Lib.hid (hO7.keep (by rw [on1.size]; exact Nat.le_refl _) (only_ints hBr (by decide) on1))
  have Hb8 := Lib.hid (show OpBx (w7.setCell ⟨B, 2, none⟩ (.slice (some ⟨g7, 0, none⟩) (ops.length + 1) cap7)) H kd k a1 n1 c1 q bt a2 n2 c2 from ⟨(on1.block H (by have := HbH.out; have := Hh.out.o.2.1; omega)).trans hb7.row⟩)
  have hH7 : w7.cell? ⟨B, 2, none⟩ = some v ∧ w7.cell? ⟨H, 0, none⟩ = some (.int .i64 kd) ∧ w7.cell? ⟨H, 1, none⟩ = some (.int .i64 k) ∧ w7.cell? ⟨H, 2, none⟩ = some (.slice a1 n1 c1) ∧ w7.cell? ⟨H, 3, none⟩ = some (.int .i64 q) ∧ w7.cell? ⟨H, 4, none⟩ = some (.int .i64 bt) ∧ w7.cell? ⟨H, 5, none⟩ = some (.slice a2 n2 c2) := ⟨HST.out.1, hb7.x0, hb7.x1, hb7.x2, hb7.x3, hb7.x4, hb7.x5⟩
  refine anyK_one (i := 7) (by kernel_rfl) rfl (fun Kk hKk => ?_)
  refine stepK_append rfl _ _ 25 rfl v (.slice (some ⟨W0.drew.heap.size, 0, none⟩) 1 1) _ rfl rfl hrun ?_
  refine hKk.out _ _ (fun _ => hH7) ?_
  clear hKk Kk hrun hown hrows hown7 hgrow7 hO2 hs2 hk7 hO7 hb7 on1 hBr E2 hd0
  show anyK _ _ _ _ _ _ _ _ (Act.put _ (some 14) _) _
  simp only [Act.put, List.setIfInBounds_toArray, List.set_cons_zero, List.set_cons_succ]
  refine anyK_take (i := 8) (v := ?_) rfl (by kernel_rfl) (by kernel_rfl) (by kernel_rfl) (N := 11) (by kernel_rfl) (by kernel_rfl) (by kernel_rfl) (fun _ _ _ h => h) (Or.inl ⟨by rfl, ?_⟩) hH7 ?_
  rotate_left 1
  · intro w hSw
    go_simp
    try with_reducible rfl
  show anyK _ _ _ _ _ _ _ _ (Act.put _ (some 15) _) _
  simp only [Act.put, List.setIfInBounds_toArray, List.set_cons_zero, List.set_cons_succ]
  refine anyK_take (i := 9) (v := ?_) rfl (by kernel_rfl) (by kernel_rfl) (by kernel_rfl) (N := 11) (by kernel_rfl) (by kernel_rfl) (by kernel_rfl) (fun _ _ _ h => h) (Or.inl ⟨by rfl, ?_⟩) hH7 ?_
  rotate_left 1
  · intro w hSw
    go_simp
    try with_reducible rfl
  show anyK _ _ _ _ _ _ _ _ (Act.put _ (some 16) _) _
  simp only [Act.put, List.setIfInBounds_toArray, List.set_cons_zero, List.set_cons_succ]
  clear hH7
  refine anyK_one (i := 10) (by kernel_rfl) rfl (fun Kk hKk => ?_)
  refine stepK_store rfl rfl _ _ rfl B 2 _ _ _ v rfl rfl HST.out.1 HST.out.2.1 ?_
  refine hKk.out _ _ (fun h => Bool.noConfusion (show true = false from h)) ?_
  clear hKk Kk
  simp only [List.setIfInBounds_toArray, List.set_cons_zero, List.set_cons_succ]
  refine anyK_done (by kernel_rfl) ?_ _
  have HS8 := Lib.hid HST.out.2.2
  obtain ⟨W8, hW8⟩ : ∃ V, w7.setCell ⟨B, 2, none⟩ (.slice (some ⟨g7, 0, none⟩) (ops.length + 1) cap7) = V := ⟨_, rfl⟩
  obtain ⟨v8, hv8⟩ : ∃ v, Value.slice (some ⟨g7, 0, none⟩) (ops.length + 1) cap7 = v := ⟨_, rfl⟩
  rw [hW8, hv8] at HS8
  rw [hW8] at HO8 Hb8 ⊢
  clear HST hW8 HSt
  have k0 := Hb8.out.x0; have k1 := Hb8.out.x1; have k2 := Hb8.out.x2; have k3 := Hb8.out.x3; have k4 := Hb8.out.x4; have k5 := Hb8.out.x5
  have HGo := Lib.hid (HG.out W8 HO8.out.l)
  go_wp2_with fail
  refine HGo.out.mono ?_
  rintro e w9 ⟨vg, rfl, x9, hvg⟩
  obtain ⟨F, caps, rfl, hEnt, hC⟩ := hvg
  have HC := Lib.hid hC
  have HS9 := Lib.hid (HS8.out.ext x9)
  have h1 := HS9.out.x1
  have Hlo := Lib.hid (show g < W8.heap.size from Nat.lt_of_lt_of_le HS8.out.o.2.2.2.1 HS8.out.o.2.2.2.2.2)
  obtain ⟨lo, hlo⟩ : ∃ lo, W8.heap.size = lo := ⟨_, rfl⟩
  rw [hlo] at HC Hlo
  clear x9 hC k0 k1 k2 k3 k4 k5 HGo hlo
  go_wp2_with fail
  go_loopg [24] ng (fun kk s24 wr => ∃ i : Nat, s24 = .int .i64 (i : Int) ∧ i ≤ ng ∧ ng - i = kk ∧ HmS u wr base B g n ng ag cg (doL A l i) v8 (ops ++ [⟨kd, k, ctl, q, bt, cnd⟩]) ∧ Kb lo w9 wr)
  case atStart => exact ⟨0, rfl, Nat.zero_le _, rfl, by rw [doL_zero]; exact HS9.out, Kb.of_ext (Ext.refl _)⟩
  case round =>
    obtain ⟨i, rfl, hi, hkk, hS, hK⟩ := hrel
    have Hkk := Lib.hid hkk; have HS := Lib.hid hS; have HK := Lib.hid hK
    by_cases hin : i = ng
    · have p1 : ¬ (i : Int) < (ng : Int) := by omega
      rw [hin, ← Hgl.out, doL_all, Hgl.out] at HS
      clear hkk hS hK hi hin hEnt
      go_wp2_with fail
      go_end0
      exact ⟨⟨_, rfl⟩, v8, HS.out⟩
    have hlt : i < ng := by omega
    have p1 : (i : Int) < (ng : Int) := by omega
    have p0 : (0 : Int) ≤ (i : Int) := by omega
    have wi : IntKind.i64.wrap ((i : Int) + 1) = ((i + 1 : Nat) : Int) := by rw [IntKind.wrap_i64]; have := Hng.out; omega
    obtain ⟨p, hp⟩ : ∃ p, l[i]? = some p := ⟨_, List.getElem?_eq_getElem (by rw [Hgl.out]; exact hlt)⟩
    have hpi : (doL A l i)[i]? = some p := (doL_at A l i).trans hp
    obtain ⟨hag, hGn, _⟩ := hS.at hpi
    obtain ⟨e0, e1, e2⟩ := hGn.c i p hpi
    have Hpok := Lib.hid (Hok.out p (List.mem_of_getElem? hp))
    have Hset := Lib.hid (doL_set A l hp)
    have Hlt := Lib.hid hlt; have Hpi := Lib.hid hp
    have Hag := Lib.hid hag
    have h1 := hS.x1
    rw [hag] at h1 ⊢
    clear hkk hS hK hi hin hlt hp hpi hGn hag
    go_upto_region 6 with fail
    obtain ⟨J, hJ⟩ : ∃ J, wr.heap.size = J := ⟨_, rfl⟩
    obtain ⟨Wj, hWj⟩ : ∃ V, wr.alloc (.cells #[.int .u16 (p.x : Int), .int .u16 (p.z : Int), .bool p.m] 66) = V := ⟨_, rfl⟩
    have Ej : Ext wr Wj := by rw [← hWj]; exact ext_al _ _
    have hbP : PuB Wj J p.x p.z p.m := by rw [← hWj, ← hJ]; exact PuB.new _ _ _ _
    rw [hJ, hWj]
    clear hJ hWj
    have HS := Lib.hid (HS.out.ext Ej)
    have HK := Lib.hid (HK.out.ext Ej)
    have HbP := Lib.hid hbP
    clear hbP Ej h1 e0 e1 e2
    have HSt := Lib.hid (fun (w' : World) (hx : Ext Wj w') => (show w'.cell? ⟨B, 1, none⟩ = some (.slice (some ⟨g, 0, none⟩) ng cg) ∧ w'.cell? ⟨J, 0, none⟩ = some (.int .u16 (p.x : Int)) ∧ w'.cell? ⟨J, 1, none⟩ = some (.int .u16 (p.z : Int)) ∧ w'.cell? ⟨J, 2, none⟩ = some (.bool p.m) from ⟨by rw [← Hag.out]; exact cell_ext HS.out.x1 hx, cell_ext HbP.out.x0 hx, cell_ext HbP.out.x1 hx, cell_ext HbP.out.x2 hx⟩))
    have hd0 : Ext Wj Wj.drew := Below.drew (Ext.refl _)
    refine wp_region_K 9 (fun w' => w'.cell? ⟨B, 1, none⟩ = some (.slice (some ⟨g, 0, none⟩) ng cg) ∧ w'.cell? ⟨J, 0, none⟩ = some (.int .u16 (p.x : Int)) ∧ w'.cell? ⟨J, 1, none⟩ = some (.int .u16 (p.z : Int)) ∧ w'.cell? ⟨J, 2, none⟩ = some (.bool p.m)) (by kernel_rfl) ?_
    show anyK _ _ _ _ _ _ 10 #[false, false, false, false, false, false, false, false, false, false] _ _
    refine anyK_take (i := 0) (v := ?_) rfl (by kernel_rfl) (by kernel_rfl) (by kernel_rfl) (N := 10) (by kernel_rfl) (by kernel_rfl) (by kernel_rfl) (fun _ _ _ h => h) (Or.inl ⟨by rfl, ?_⟩) (HSt.out _ hd0) ?_
    rotate_left 1
    · intro w hSw
      go_simp
      try with_reducible rfl
    show anyK _ _ _ _ _ _ _ _ (Act.put _ (some 29) _) _
    simp only [Act.put, List.setIfInBounds_toArray, List.set_cons_zero, List.set_cons_succ]
    refine anyK_take (i := 1) (v := ?_) rfl (by kernel_rfl) (by kernel_rfl) (by kernel_rfl) (N := 10) (by kernel_rfl) (by kernel_rfl) (by kernel_rfl) (fun _ _ _ h => h) (Or.inl ⟨by rfl, ?_⟩) (HSt.out _ hd0) ?_
    rotate_left 1
    · intro w hSw
      go_simp
      try with_reducible rfl
    show anyK _ _ _ _ _ _ _ _ (Act.put _ (some 30) _) _
    simp only [Act.put, List.setIfInBounds_toArray, List.set_cons_zero, List.set_cons_succ]
    refine anyK_take (i := 2) (v := ?_) rfl (by kernel_rfl) (by kernel_rfl) (by kernel_rfl) (N := 10) (by kernel_rfl) (by kernel_rfl) (by kernel_rfl) (fun _ _ _ h => h) (Or.inl ⟨by rfl, ?_⟩) (HSt.out _ hd0) ?_
    rotate_left 1
    · intro w hSw
      go_simp
      try with_reducible rfl
    show anyK _ _ _ _ _ _ _ _ (Act.put _ (some 31) _) _
    simp only [Act.put, List.setIfInBounds_toArray, List.set_cons_zero, List.set_cons_succ]
    refine anyK_take (i := 3) (v := ?_) rfl (by kernel_rfl) (by kernel_rfl) (by kernel_rfl) (N := 10) (by kernel_rfl) (by kernel_rfl) (by kernel_rfl) (fun _ _ _ h => h) (Or.inl ⟨by rfl, ?_⟩) (HSt.out _ hd0) ?_
    rotate_left 1
    · intro w hSw
      go_simp
      try with_reducible rfl
    show anyK _ _ _ _ _ _ _ _ (Act.put _ (some 32) _) _
    simp only [Act.put, List.setIfInBounds_toArray, List.set_cons_zero, List.set_cons_succ]
    refine anyK_take (i := 4) (v := ?_) rfl (by kernel_rfl) (by kernel_rfl) (by kernel_rfl) (N := 10) (by kernel_rfl) (by kernel_rfl) (by kernel_rfl) (fun _ _ _ h => h) (Or.inl ⟨by rfl, ?_⟩) (HSt.out _ hd0) ?_
    rotate_left 1
    · intro w hSw
      go_simp
      try with_reducible rfl
    show anyK _ _ _ _ _ _ _ _ (Act.put _ (some 33) _) _
    simp only [Act.put, List.setIfInBounds_toArray, List.set_cons_zero, List.set_cons_succ]
    refine anyK_take (i := 5) (v := ?_) rfl (by kernel_rfl) (by kernel_rfl) (by kernel_rfl) (N := 10) (by kernel_rfl) (by kernel_rfl) (by kernel_rfl) (fun _ _ _ h => h) (Or.inl ⟨by rfl, ?_⟩) (HSt.out _ hd0) ?_
    rotate_left 1
    · intro w hSw
      go_simp
      try with_reducible rfl
    show anyK _ _ _ _ _ _ _ _ (Act.put _ (some 34) _) _
    simp only [Act.put, List.setIfInBounds_toArray, List.set_cons_zero, List.set_cons_succ]
    refine anyK_take (i := 6) (v := ?_) rfl (by kernel_rfl) (by kernel_rfl) (by kernel_rfl) (N := 10) (by kernel_rfl) (by kernel_rfl) (by kernel_rfl) (fun _ _ _ h => h) (Or.inl ⟨by rfl, ?_⟩) (HSt.out _ hd0) ?_
    rotate_left 1
    · intro w hSw
      go_simp
      try with_reducible rfl
    show anyK _ _ _ _ _ _ _ _ (Act.put _ (some 35) _) _
    simp only [Act.put, List.setIfInBounds_toArray, List.set_cons_zero, List.set_cons_succ]
    have HCc := Lib.hid (HC.out p Wj.drew Hpok.out (HK.out.ext hd0))
    unfold pvQ at HCc
    obtain ⟨Q, hQ⟩ : ∃ Q, A p = Q := ⟨_, rfl⟩
    rw [hQ] at HCc Hset
    clear hQ
    refine anyK_one (i := 7) (by kernel_rfl) rfl (fun Kk hKk => ?_)
    go_simp
    (refine HCc.out.mono ?_; rintro e wA ⟨rfl, xA⟩)
    have EA : Ext Wj wA := hd0.trans xA
    go_wp2_with fail
    refine hKk.out _ _ (fun _ => HSt.out _ EA) ?_
    clear hKk Kk
    simp only [List.setIfInBounds_toArray, List.set_cons_zero, List.set_cons_succ]
    refine anyK_take (i := 8) (v := ?_) rfl (by kernel_rfl) (by kernel_rfl) (by kernel_rfl) (N := 10) (by kernel_rfl) (by kernel_rfl) (by kernel_rfl) (fun _ _ _ h => h) (Or.inl ⟨by rfl, ?_⟩) (HSt.out _ EA) ?_
    rotate_left 1
    · intro w hSw
      go_simp
      try with_reducible rfl
    show anyK _ _ _ _ _ _ _ _ (Act.put _ (some 37) _) _
    simp only [Act.put, List.setIfInBounds_toArray, List.set_cons_zero, List.set_cons_succ]
    have HSA := Lib.hid (HS.out.ext EA)
    have HKA := Lib.hid (HK.out.ext EA)
    clear EA hd0 xA HCc
    have hgA := (HSA.out.at (i := i) (p := p) (by rw [doL_at]; exact Hpi.out)).2.1
    obtain ⟨e0, e1, e2⟩ := hgA.c i p (by rw [doL_at]; exact Hpi.out)
    have f0 := hgA.f (i * 3); have f1 := hgA.f (i * 3 + 1); have f2 := hgA.f (i * 3 + 2)
    have HP := Lib.hid (HSA.out.put Hlt.out Q)
    rw [Hset.out] at HP
    have HKP := Lib.hid (HKA.out.only ((((Only.refl g wA).setCell (i * 3) (.int .u16 (Q.x : Int))).setCell (i * 3 + 1) (.int .u16 (Q.z : Int))).setCell (i * 3 + 2) (.bool Q.m)) Hlo.out)
    clear hgA
    refine anyK_one (i := 9) (by kernel_rfl) rfl (fun Kk hKk => ?_)
    go_wp2_with fail
    refine hKk.out _ _ (fun h => Bool.noConfusion (show true = false from h)) ?_
    clear hKk Kk
    simp only [List.setIfInBounds_toArray, List.set_cons_zero, List.set_cons_succ]
    refine anyK_done (by kernel_rfl) ?_ _
    clear e0 e1 e2 f0 f1 f2
    go_wp2_with fail
    rw [← Hag.out]
    go_roundg (ng - (i + 1))
    case measure => have := Hkk.out; have := Hlt.out; omega
    case rel => exact ⟨i + 1, rfl, Hlt.out, rfl, HP.out, HKP.out⟩
end Go.Proofs.YtbmjobpobjfjeaaDoor
namespace Go.Proofs.YtbmjobpobjfjeaaDoor
open Go.RowKit

/-- What operations, one after the other, make of a Pauli. -/
def actL (ops : List Gop) (p : QP) : QP := ops.foldl (fun p o => actW o p) p
theorem actL_nil (p : QP) : actL [] p = p := rfl
theorem actL_cons (o : Gop) (ops : List Gop) (p : QP) : actL (o :: ops) p = actL ops (actW o p) := rfl
theorem actL_append (a b : List Gop) (p : QP) : actL (a ++ b) p = actL b (actL a p) := by unfold actL; rw [List.foldl_append]
theorem actL_snoc (a : List Gop) (o : Gop) (p : QP) : actL (a ++ [o]) p = actW o (actL a p) := actL_append a [o] p
theorem map_snoc (l : List QP) (a : List Gop) (o : Gop) : (l.map (actL a)).map (actW o) = l.map (actL (a ++ [o])) := by
  rw [List.map_map]
  exact List.map_congr_left fun p _ => (actL_snoc a o p).symm
theorem actL_ok {n : Nat} (hn : n ≤ 16) : ∀ {ops : List Gop}, (∀ o ∈ ops, WOk n o) → ∀ {p : QP}, p.ok → (actL ops p).ok
  | [], _, _, hp => hp
  | o :: r, h, p, hp => actL_ok hn (fun x hx => h x (List.mem_cons_of_mem _ hx)) (act_ok hn (h o (by simp)) hp)
theorem list_ok {n : Nat} (hn : n ≤ 16) {ops : List Gop} (h : ∀ o ∈ ops, WOk n o) {l : List QP} (hl : ∀ p ∈ l, p.ok) : ∀ p ∈ l.map (actL ops), p.ok := fun p hp => by
  obtain ⟨x, hx, rfl⟩ := List.mem_map.1 hp
  exact actL_ok hn h (hl x hx)

/-- All letters of a Pauli become Z, from qubit q on, k of them. -/
def tzL : Nat → Nat → QP → List Gop
  | 0, _, _ => []
  | k + 1, q, p => if p.x.testBit q = false then tzL k (q + 1) p else if p.z.testBit q = true then wP 1 q :: wH q :: tzL k (q + 1) (actW (wH q) (actW (wP 1 q) p)) else wH q :: tzL k (q + 1) (actW (wH q) p)
theorem tzL_ok {n : Nat} : ∀ (k q : Nat) (p : QP), q + k ≤ n → ∀ o ∈ tzL k q p, WOk n o
  | 0, _, _, _, o, ho => by simp [tzL] at ho
  | k + 1, q, p, h, o, ho => by
    unfold tzL at ho
    split at ho
    · exact tzL_ok k (q + 1) p (by omega) o ho
    · split at ho
      · rcases List.mem_cons.1 ho with rfl | ho
        · exact .p (by omega) (Or.inl rfl)
        · rcases List.mem_cons.1 ho with rfl | ho
          · exact .h (by omega)
          · exact tzL_ok k (q + 1) _ (by omega) o ho
      · rcases List.mem_cons.1 ho with rfl | ho
        · exact .h (by omega)
        · exact tzL_ok k (q + 1) _ (by omega) o ho
theorem tzL_len : ∀ (k q : Nat) (p : QP), (tzL k q p).length ≤ 2 * k
  | 0, _, _ => by simp [tzL]
  | k + 1, q, p => by
    unfold tzL
    split
    · have := tzL_len k (q + 1) p; omega
    · split
      · have := tzL_len k (q + 1) (actW (wH q) (actW (wP 1 q) p)); simp only [List.length_cons]; omega
      · have := tzL_len k (q + 1) (actW (wH q) p); simp only [List.length_cons]; omega
/-- One of the Zs comes to qubit i, if there is none. -/
def gaA (i : Nat) (p : QP) : List Gop := if p.z.testBit i = true then [] else [wCX (Lib.bitLen p.z - 1) i]
/-- The others go. -/
def gaL (i : Nat) : Nat → Nat → QP → List Gop
  | 0, _, _ => []
  | k + 1, q, p => if q ≠ i ∧ p.z.testBit q = true then wCX i q :: gaL i k (q + 1) (actW (wCX i q) p) else gaL i k (q + 1) p
theorem gaL_ok {n i : Nat} (hi : i < n) : ∀ (k q : Nat) (p : QP), q + k ≤ n → ∀ o ∈ gaL i k q p, WOk n o
  | 0, _, _, _, o, ho => by simp [gaL] at ho
  | k + 1, q, p, h, o, ho => by
    unfold gaL at ho
    split at ho
    · rename_i hq
      rcases List.mem_cons.1 ho with rfl | ho
      · exact .cx hi (by omega) (Ne.symm hq.1)
      · exact gaL_ok hi k (q + 1) _ (by omega) o ho
    · exact gaL_ok hi k (q + 1) p (by omega) o ho
theorem gaL_len (i : Nat) : ∀ (k q : Nat) (p : QP), (gaL i k q p).length ≤ k
  | 0, _, _ => by simp [gaL]
  | k + 1, q, p => by
    unfold gaL
    split
    · have := gaL_len i k (q + 1) (actW (wCX i q) p); simp only [List.length_cons]; omega
    · have := gaL_len i k (q + 1) p; omega
/-- Generator i, which is p by now, goes home. -/
def gaS (n i : Nat) (p : QP) : List Gop := gaA i p ++ gaL i n 0 (actL (gaA i p) p)
def mnS (i : Nat) (p : QP) : List Gop := if p.m = true then [wX i] else []
def wayS (n i : Nat) (p : QP) : List Gop :=
  tzL (n - i) i p ++ (gaS n i (actL (tzL (n - i) i p) p) ++ mnS i (actL (gaS n i (actL (tzL (n - i) i p) p)) (actL (tzL (n - i) i p) p)))
/-- The first i generators go home. -/
def wayL (n : Nat) (l : List QP) : Nat → List Gop
  | 0 => []
  | i + 1 => wayL n l i ++ wayS n i (actL (wayL n l i) (l.getD i ⟨0, 0, false⟩))
theorem nilO (w : World) {o : Gop} (h1 : o.ctl = []) (h2 : o.cnd = []) : OpO w o none 0 0 none 0 0 :=
  ⟨⟨⟨by rw [h1]; rfl, Or.inl rfl⟩, Nat.le_refl _, by decide, ⟨by rw [h2]; rfl, Or.inl rfl⟩, Nat.le_refl _, by decide⟩, (fun ad e => by cases e), (fun ad e => by cases e)⟩
end Go.Proofs.YtbmjobpobjfjeaaDoor
namespace Go.Proofs.YtbmjobpobjfjeaaDoor
open Go.RowKit

/-- do of an operation without lists. -/
theorem do_bare {u w : World} {base B g n ng : Nat} {ag : Option Addr} {cg : Nat} {l : List QP} {v : Value} {ops T : List Gop} (h : HmS u w base B g n ng ag cg (l.map (actL T)) v (ops ++ T)) (hn : n ≤ 16) (hng : ng ≤ 16) (hok : ∀ p ∈ l, p.ok) (hT : ∀ o ∈ T, WOk n o) (hlen : ops.length + T.length ≤ 10000)
    {o : Gop} (ho : WOk n o) (h1 : o.ctl = []) (h2 : o.cnd = []) :
    Calls Tryd.prog 38 #[.pointer (some ⟨B, 0, none⟩), .agg #[.int .i64 o.kind, .int .i64 o.k, .slice none 0 0, .int .i64 o.q, .int .i64 o.bit, .slice none 0 0]] w fun e w' => DoR u base B g n ng ag cg (l.map (actL (T ++ [o]))) (ops ++ (T ++ [o])) e w' := by
  have := do_any h hn hng (list_ok hn hT hok) (by rw [List.length_append]; exact hlen) ho none 0 0 none 0 0 (nilO w h1 h2)
  rwa [map_snoc, List.append_assoc] at this

set_option maxRecDepth 100000 in
set_option maxHeartbeats 8000000 in
theorem turnToZ_any {u w : World} {base B g n ng : Nat} {ag : Option Addr} {cg : Nat} {l : List QP} {v : Value} {ops : List Gop} (h : HmS u w base B g n ng ag cg l v ops) (hn : n ≤ 16) (hng : ng ≤ 16) (hok : ∀ p ∈ l, p.ok) (hlen : ops.length ≤ 9000)
    {i : Nat} {p : QP} (hp : l[i]? = some p) (hi : i ≤ n) :
    Calls Tryd.prog 36 #[.pointer (some ⟨B, 0, none⟩), .int .i64 (i : Int)] w fun e w' => DoR u base B g n ng ag cg (l.map (actL (tzL (n - i) i p))) (ops ++ tzL (n - i) i p) e w' := by
  have HTok := Lib.hid (tzL_ok (n := n) (n - i) i p (by omega))
  have HTl := Lib.hid (tzL_len (n - i) i p)
  obtain ⟨T, hT⟩ : ∃ T, tzL (n - i) i p = T := ⟨_, rfl⟩
  rw [hT] at HTok HTl ⊢
  have HT := Lib.hid hT; have Hh := Lib.hid h; have Hn := Lib.hid hn; have Hng := Lib.hid hng; have Hok := Lib.hid hok; have Hlen := Lib.hid hlen; have Hp := Lib.hid hp; have Hi := Lib.hid hi
  have HSet := Lib.hid (fun (q : Nat) (hq : q < n) wx => Set_any q (Nat.lt_of_lt_of_le hq hn) wx)
  have hin : i < ng := by rw [← h.gl]; exact (List.getElem?_eq_some_iff.1 hp).1
  have Hin := Lib.hid hin
  have i0 : (0 : Int) ≤ (i : Int) := by omega
  have i1 : (i : Int) < (ng : Int) := by omega
  clear h hn hng hok hlen hp hi hT hin
  go_enter Tryd.func36, Tryd.ntmps36
  go_wp2_with fail
  go_loopg [4] (n - i) (fun kk s4 wr => ∃ (q : Nat) (T1 : List Gop) (v1 : Value), s4 = .int .i64 (q : Int) ∧ i ≤ q ∧ q ≤ n ∧ n - q = kk ∧ HmS u wr base B g n ng ag cg (l.map (actL T1)) v1 (ops ++ T1) ∧ T1 ++ tzL (n - q) q (actL T1 p) = T)
  case atStart => exact ⟨i, [], v, rfl, Nat.le_refl _, Hi.out, rfl, by rw [List.append_nil, show actL [] = fun p => p from rfl, List.map_id']; exact Hh.out, HT.out⟩
  case round =>
    obtain ⟨q, T1, v1, rfl, hiq, hqn, hkk, hS, hTT⟩ := hrel
    have Hkk := Lib.hid hkk; have HS := Lib.hid hS; have HTT := Lib.hid hTT; have Hiq := Lib.hid hiq
    have HT1 := Lib.hid (show ∀ o ∈ T1, WOk n o from fun o ho => HTok.out o (by rw [← hTT]; exact List.mem_append_left _ ho))
    have HT1l := Lib.hid (show T1.length ≤ 100 by have h1 := congrArg List.length hTT; rw [List.length_append] at h1; have := HTl.out; have := Hn.out; omega)
    have hx0 := hS.x0; have hx1 := hS.x1
    by_cases hqn2 : q = n
    · have p1 : ¬ (q : Int) < (n : Int) := by omega
      have hfin : T1 = T := by have h1 := hTT; rw [hqn2, Nat.sub_self] at h1; rw [← h1]; simp [tzL]
      rw [hfin] at HS
      clear hkk hS hTT hqn hqn2 hiq hfin hx1
      go_wp2_with fail
      go_end0
      exact ⟨⟨_, rfl⟩, v1, HS.out⟩
    have hlt : q < n := by omega
    have p1 : (q : Int) < (n : Int) := by omega
    have wq : IntKind.i64.wrap ((q : Int) + 1) = ((q + 1 : Nat) : Int) := by rw [IntKind.wrap_i64]; have := Hn.out; omega
    have hpi : (l.map (actL T1))[i]? = some (actL T1 p) := by rw [List.getElem?_map, Hp.out]; rfl
    obtain ⟨hag, hGn, _⟩ := hS.at hpi
    obtain ⟨e0, e1, e2⟩ := hGn.c i _ hpi
    have hpok := actL_ok Hn.out HT1.out (Hok.out p (List.mem_of_getElem? Hp.out))
    obtain ⟨A, a1, a2, a3⟩ := ask_bit hpok.1 (q := q) (by have := Hn.out; omega)
    obtain ⟨C, c1, c2, c3⟩ := ask_bit hpok.2 (q := q) (by have := Hn.out; omega)
    have hst : tzL (n - q) q (actL T1 p) = if (actL T1 p).x.testBit q = false then tzL (n - (q + 1)) (q + 1) (actL T1 p) else if (actL T1 p).z.testBit q = true then wP 1 q :: wH q :: tzL (n - (q + 1)) (q + 1) (actW (wH q) (actW (wP 1 q) (actL T1 p))) else wH q :: tzL (n - (q + 1)) (q + 1) (actW (wH q) (actL T1 p)) := by
      rw [show n - q = (n - (q + 1)) + 1 by omega, tzL]
    rw [hst] at HTT
    have HSq := Lib.hid (HSet.out q hlt)
    obtain ⟨V, hV⟩ : ∃ V, 2 ^ q = V := ⟨_, rfl⟩
    rw [hV] at a1 c1 HSq
    have Hag := Lib.hid hag; have Hlt := Lib.hid hlt
    rw [hag] at hx1
    have Ha := Lib.hid (And.intro a1 (And.intro a2 a3)); have Hc := Lib.hid (And.intro c1 (And.intro c2 c3))
    have He := Lib.hid (And.intro e0 (And.intro e1 e2))
    have hq0 : (0 : Int) ≤ (q : Int) := by omega
    clear hkk hS hTT hiq hqn hqn2 hlt hpi hGn hpok hst hV hag e2 c1 c2 c3
    obtain ⟨bx, hbx⟩ : ∃ b, (actL T1 p).x.testBit q = b := ⟨_, rfl⟩
    obtain ⟨bz, hbz⟩ : ∃ b, (actL T1 p).z.testBit q = b := ⟨_, rfl⟩
    rw [hbx] at a2 a3 HTT
    rw [hbz] at HTT
    obtain ⟨px, hpx⟩ : ∃ x, (actL T1 p).x = x := ⟨_, rfl⟩
    obtain ⟨pz, hpz⟩ : ∃ x, (actL T1 p).z = x := ⟨_, rfl⟩
    rw [hpx] at a1 e0
    rw [hpz] at e1
    go_upto_region 3 with fail
    go_quiet ((go_at_call 49; refine Calls.quiet_of_same (HSq.out _)))
    obtain ⟨W1, hW1⟩ : ∃ V, wr.drewN nq = V := ⟨_, rfl⟩
    have E1 : Ext wr W1 := by rw [← hW1]; exact ext_drewN _ _
    rw [hW1]
    have HS := Lib.hid (HS.out.ext E1)
    have HE1 := Lib.hid E1
    have hx1' := cell_ext hx1 E1
    have e1' := cell_ext e1 E1
    clear hW1 E1 hx0 hx1 e0 e1 a1 a2 a3 Ha
    cases bx with
    | false =>
      rw [if_pos rfl] at HTT
      clear hx1' e1'
      go_wp2_with fail
      go_roundg (n - (q + 1))
      case measure => have := Hkk.out; have := Hlt.out; omega
      case rel => exact ⟨q + 1, T1, v1, rfl, by have := Hiq.out; omega, Hlt.out, rfl, HS.out, HTT.out⟩
    | true =>
      rw [if_neg (by decide)] at HTT
      obtain ⟨c1, c2, c3⟩ := Hc.out
      rw [hpz] at c1
      rw [hbz] at c2 c3
      clear Hc
      go_upto_region 4 with fail
      go_quiet ((go_at_call 49; refine Calls.quiet_of_same (HSq.out _)))
      obtain ⟨W2, hW2⟩ : ∃ V, W1.drewN nq = V := ⟨_, rfl⟩
      have E2 : Ext W1 W2 := by rw [← hW2]; exact ext_drewN _ _
      rw [hW2]
      have HS := Lib.hid (HS.out.ext E2)
      clear hW2 E2 hx1' e1' c1 c2 c3
      cases bz with
      | true =>
        rw [if_pos rfl] at HTT
        have HD := Lib.hid (show Calls Tryd.prog 38 #[.pointer (some ⟨B, 0, none⟩), .agg #[.int .i64 4, .int .i64 4, .slice none 0 0, .int .i64 (q : Int), .int .i64 0, .slice none 0 0]] W2 _ from do_bare HS.out Hn.out Hng.out Hok.out HT1.out (by have := HT1l.out; have := Hlen.out; omega) (o := wP 1 q) (.p Hlt.out (Or.inl rfl)) rfl rfl)
        go_wp2_with fail
        refine HD.out.mono ?_
        rintro e w3 ⟨⟨x3, rfl⟩, v3, hS3⟩
        have HS3 := Lib.hid hS3
        clear hS3 HD
        have HD := Lib.hid (show Calls Tryd.prog 38 #[.pointer (some ⟨B, 0, none⟩), .agg #[.int .i64 3, .int .i64 0, .slice none 0 0, .int .i64 (q : Int), .int .i64 0, .slice none 0 0]] w3 _ from do_bare HS3.out Hn.out Hng.out Hok.out (fun o ho => by
          rcases List.mem_append.1 ho with h | h
          · exact HT1.out o h
          · rw [List.mem_singleton.1 h]; exact .p Hlt.out (Or.inl rfl)) (by rw [List.length_append]; have := HT1l.out; have := Hlen.out; simp only [List.length_cons, List.length_nil]; omega) (o := wH q) (.h Hlt.out) rfl rfl)
        go_wp2_with fail
        refine HD.out.mono ?_
        rintro e w4 ⟨⟨x4, rfl⟩, v4, hS4⟩
        have HS4 := Lib.hid hS4
        clear hS4 HD
        go_wp2_with fail
        go_roundg (n - (q + 1))
        case measure => have := Hkk.out; have := Hlt.out; omega
        case rel => exact ⟨q + 1, T1 ++ [wP 1 q] ++ [wH q], v4, rfl, by have := Hiq.out; omega, Hlt.out, rfl, HS4.out, by rw [actL_snoc, actL_snoc, ← HTT.out]; simp⟩
      | false =>
        rw [if_neg (by decide)] at HTT
        have HD := Lib.hid (show Calls Tryd.prog 38 #[.pointer (some ⟨B, 0, none⟩), .agg #[.int .i64 3, .int .i64 0, .slice none 0 0, .int .i64 (q : Int), .int .i64 0, .slice none 0 0]] W2 _ from do_bare HS.out Hn.out Hng.out Hok.out HT1.out (by have := HT1l.out; have := Hlen.out; omega) (o := wH q) (.h Hlt.out) rfl rfl)
        go_wp2_with fail
        refine HD.out.mono ?_
        rintro e w4 ⟨⟨x4, rfl⟩, v4, hS4⟩
        have HS4 := Lib.hid hS4
        clear hS4 HD
        go_wp2_with fail
        go_roundg (n - (q + 1))
        case measure => have := Hkk.out; have := Hlt.out; omega
        case rel => exact ⟨q + 1, T1 ++ [wH q], v4, rfl, by have := Hiq.out; omega, Hlt.out, rfl, HS4.out, by rw [actL_snoc, ← HTT.out]; simp⟩
end Go.Proofs.YtbmjobpobjfjeaaDoor
namespace Go.Proofs.YtbmjobpobjfjeaaDoor
open Go.RowKit

theorem oneO (w : World) (q c : Nat) : OpO (w.alloc (.cells #[.int .i64 (c : Int)] 3)) (wCX q c) (some ⟨w.heap.size, 0, none⟩) 1 1 none 0 0 := by
  have hr := heap_alloc_new w (.cells #[.int .i64 (c : Int)] 3)
  refine ⟨⟨⟨rfl, Or.inr ⟨_, 0, rfl, (Array.getElem?_eq_some_iff.1 hr).1, fun t ht => ?_⟩⟩, Nat.le_refl _, by decide, ⟨rfl, Or.inl rfl⟩, Nat.le_refl _, by decide⟩, ?_, (fun ad e => by cases e)⟩
  · rw [cell_of_row _ _ (0 + t) _ _ (0, 0) hr]
    obtain rfl : t = 0 := by omega
    rfl
  · intro ad e
    cases e
    exact ⟨_, _, hr⟩
/-- do of an X with a control. -/
theorem do_cx {u w : World} {base B g n ng : Nat} {ag : Option Addr} {cg : Nat} {l : List QP} {v : Value} {ops T : List Gop} (h : HmS u w base B g n ng ag cg (l.map (actL T)) v (ops ++ T)) (hn : n ≤ 16) (hng : ng ≤ 16) (hok : ∀ p ∈ l, p.ok) (hT : ∀ o ∈ T, WOk n o) (hlen : ops.length + T.length ≤ 10000)
    {q c : Nat} (ho : WOk n (wCX q c)) :
    Calls Tryd.prog 38 #[.pointer (some ⟨B, 0, none⟩), .agg #[.int .i64 2, .int .i64 0, .slice (some ⟨w.heap.size, 0, none⟩) 1 1, .int .i64 (q : Int), .int .i64 0, .slice none 0 0]] (w.alloc (.cells #[.int .i64 (c : Int)] 3)) fun e w' => DoR u base B g n ng ag cg (l.map (actL (T ++ [wCX q c]))) (ops ++ (T ++ [wCX q c])) e w' := by
  have := do_any (h.ext (ext_al w (.cells #[.int .i64 (c : Int)] 3))) hn hng (list_ok hn hT hok) (by rw [List.length_append]; exact hlen) ho _ 1 1 none 0 0 (oneO w q c)
  rwa [map_snoc, List.append_assoc] at this

set_option maxRecDepth 100000 in
set_option maxHeartbeats 8000000 in
theorem gather_any {u w : World} {base B g n ng : Nat} {ag : Option Addr} {cg : Nat} {l : List QP} {v : Value} {ops : List Gop} (h : HmS u w base B g n ng ag cg l v ops) (hn : n ≤ 16) (hng : ng ≤ 16) (hok : ∀ p ∈ l, p.ok) (hlen : ops.length ≤ 9000)
    {i : Nat} {p : QP} (hp : l[i]? = some p) (hi : i < n) (hgood : p.z.testBit i = false → i < Lib.bitLen p.z - 1 ∧ Lib.bitLen p.z - 1 < n) :
    Calls Tryd.prog 37 #[.pointer (some ⟨B, 0, none⟩), .int .i64 (i : Int)] w fun e w' => DoR u base B g n ng ag cg (l.map (actL (gaS n i p))) (ops ++ gaS n i p) e w' := by
  have Hh := Lib.hid h; have Hn := Lib.hid hn; have Hng := Lib.hid hng; have Hok := Lib.hid hok; have Hlen := Lib.hid hlen; have Hp := Lib.hid hp; have Hi := Lib.hid hi; have Hg := Lib.hid hgood
  have HgA := Lib.hid (show (∀ o ∈ gaA i p, WOk n o) ∧ (gaA i p).length ≤ 1 by
    unfold gaA
    split
    · exact ⟨fun o ho => by simp at ho, by simp⟩
    · rename_i hz
      have hz' : p.z.testBit i = false := by simpa using hz
      exact ⟨fun o ho => by rw [List.mem_singleton.1 ho]; exact .cx (hgood hz').2 hi (by have := (hgood hz').1; omega), by simp⟩)
  have HSet := Lib.hid (fun (q : Nat) (hq : q < n) wx => Set_any q (Nat.lt_of_lt_of_le hq hn) wx)
  have hin : i < ng := by rw [← h.gl]; exact (List.getElem?_eq_some_iff.1 hp).1
  have Hin := Lib.hid hin
  have i0 : (0 : Int) ≤ (i : Int) := by omega
  have i1 : (i : Int) < (ng : Int) := by omega
  have hpok := hok p (List.mem_of_getElem? hp)
  have HpZ := Lib.hid hpok.2
  clear h hn hng hok hlen hp hi hin hgood hpok
  go_enter Tryd.func37, Tryd.ntmps37
  obtain ⟨hag, hGn, _⟩ := Hh.out.at Hp.out
  obtain ⟨e0, e1, e2⟩ := hGn.c i _ Hp.out
  obtain ⟨C, c1, c2, c3⟩ := ask_bit HpZ.out (q := i) (by have := Hi.out; have := Hn.out; omega)
  have HSq := Lib.hid (HSet.out i Hi.out)
  obtain ⟨V, hV⟩ : ∃ V, 2 ^ i = V := ⟨_, rfl⟩
  rw [hV] at c1 HSq
  have hx1 := Hh.out.x1
  have Hag := Lib.hid hag
  rw [hag] at hx1
  have hga : gaA i p = if p.z.testBit i = true then [] else [wCX (Lib.bitLen p.z - 1) i] := rfl
  have Hga := Lib.hid hga
  have HL := Lib.hid (fun wx => Tryd.bits_Len16 (p.z : Int) wx (by omega) (by have := HpZ.out; omega))
  rw [Int.toNat_natCast] at HL
  obtain ⟨bz, hbz⟩ : ∃ b, p.z.testBit i = b := ⟨_, rfl⟩
  rw [hbz] at c2 c3 Hga Hg
  obtain ⟨pz, hpz⟩ : ∃ x, p.z = x := ⟨_, rfl⟩
  rw [hpz] at c1 e1 HL Hga Hg
  obtain ⟨m, hm⟩ : ∃ m, Lib.bitLen pz = m := ⟨_, rfl⟩
  rw [hm] at HL Hga Hg
  clear hag hGn e0 e2 hV hga hbz hpz hm
  go_wp2_with fail
  refine (HSq.out _).mono ?_
  rintro e w1 ⟨rfl, hw1⟩
  obtain rfl := hw1.symm
  go_upto_if 18 with fail
  go_cut [] from 19 to 26 (fun wx => ∃ v1, HmS u wx base B g n ng ag cg (l.map (actL (gaA i p))) v1 (ops ++ gaA i p))
  case first =>
    cases bz with
    | true =>
      rw [if_pos rfl] at Hga
      go_wp2_with fail
      go_meet
      exact ⟨v, by rw [Hga.out, List.append_nil, show actL [] = fun p => p from rfl, List.map_id']; exact Hh.out⟩
    | false =>
      rw [if_neg (by decide)] at Hga
      have hgm := Hg.out rfl
      have wm : IntKind.i64.wrap ((m : Int) - 1) = ((m - 1 : Nat) : Int) := by rw [IntKind.wrap_i64]; have := Hn.out; omega
      obtain ⟨m1, hm1⟩ : ∃ m1, m - 1 = m1 := ⟨_, rfl⟩
      rw [hm1] at wm hgm Hga
      have Hgm := Lib.hid hgm
      clear Hg hgm hm1
      go_wp2_with fail
      refine (HL.out _).mono ?_
      rintro e w1 ⟨rfl, hw1⟩
      obtain rfl := hw1.symm
      have HD := Lib.hid (do_cx (T := []) (l := l) (ops := ops) (by rw [List.append_nil, show actL [] = fun p => p from rfl, List.map_id']; exact Hh.out) Hn.out Hng.out Hok.out (fun o ho => by simp at ho) (by have := Hlen.out; simp only [List.length_nil]; omega) (q := m1) (c := i) (.cx Hgm.out.2 Hi.out (by have := Hgm.out.1; omega)))
      clear e1 c1 c2 c3 hx1
      go_wp2_with fail
      refine HD.out.mono ?_
      rintro e w4 ⟨⟨x4, rfl⟩, v4, hS4⟩
      have HS4 := Lib.hid hS4
      clear hS4 HD
      go_wp2_with fail
      go_meet
      exact ⟨v4, by rw [Hga.out]; exact HS4.out⟩
  case rest =>
  obtain ⟨v1, hS1⟩ := hcut
  have hx0 := hS1.x0
  have HS1 := Lib.hid hS1
  have HTl := Lib.hid (gaL_len i n 0 (actL (gaA i p) p))
  have HTok := Lib.hid (show ∀ o ∈ gaS n i p, WOk n o from fun o ho => by
    unfold gaS at ho
    rcases List.mem_append.1 ho with h | h
    · exact HgA.out.1 o h
    · exact gaL_ok Hi.out n 0 _ (by omega) o h)
  have Hst := Lib.hid (show gaA i p ++ gaL i (n - 0) 0 (actL (gaA i p) p) = gaS n i p from rfl)
  have HSl := Lib.hid (show (gaS n i p).length ≤ 1 + n by unfold gaS; rw [List.length_append]; have := HTl.out; have := HgA.out.2; omega)
  obtain ⟨T, hT⟩ : ∃ T, gaS n i p = T := ⟨_, rfl⟩
  rw [hT] at HTok Hst HSl
  have HTe := Lib.hid hT
  clear hS1 hT HTl e1 c1 c2 c3 hx1 HL Hga
  go_wp2_with fail
  go_loopg [31] n (fun kk s31 wr => ∃ (q : Nat) (T1 : List Gop) (v1 : Value), s31 = .int .i64 (q : Int) ∧ q ≤ n ∧ n - q = kk ∧ HmS u wr base B g n ng ag cg (l.map (actL T1)) v1 (ops ++ T1) ∧ T1 ++ gaL i (n - q) q (actL T1 p) = T)
  case atStart => exact ⟨0, gaA i p, v1, rfl, Nat.zero_le _, rfl, HS1.out, Hst.out⟩
  case round =>
    obtain ⟨q, T1, v1, rfl, hqn, hkk, hS, hTT⟩ := hrel
    have Hkk := Lib.hid hkk; have HS := Lib.hid hS; have HTT := Lib.hid hTT
    have HT1 := Lib.hid (show ∀ o ∈ T1, WOk n o from fun o ho => HTok.out o (by rw [← hTT]; exact List.mem_append_left _ ho))
    have HT1l := Lib.hid (show T1.length ≤ 100 by have h1 := congrArg List.length hTT; rw [List.length_append] at h1; have := HSl.out; have := Hn.out; omega)
    by_cases hqn2 : q = n
    · have p1 : ¬ (q : Int) < (n : Int) := by omega
      have hfin : T1 = T := by have h1 := hTT; rw [hqn2, Nat.sub_self] at h1; rw [← h1]; simp [gaL]
      rw [hfin] at HS
      clear hkk hS hTT hqn hqn2 hfin
      go_wp2_with fail
      go_end0
      exact ⟨⟨_, rfl⟩, v1, by rw [HTe.out]; exact HS.out⟩
    have hlt : q < n := by omega
    have p1 : (q : Int) < (n : Int) := by omega
    have wq : IntKind.i64.wrap ((q : Int) + 1) = ((q + 1 : Nat) : Int) := by rw [IntKind.wrap_i64]; have := Hn.out; omega
    have hst : gaL i (n - q) q (actL T1 p) = if q ≠ i ∧ (actL T1 p).z.testBit q = true then wCX i q :: gaL i (n - (q + 1)) (q + 1) (actW (wCX i q) (actL T1 p)) else gaL i (n - (q + 1)) (q + 1) (actL T1 p) := by
      rw [show n - q = (n - (q + 1)) + 1 by omega, gaL]
    rw [hst] at HTT
    have Hlt := Lib.hid hlt
    have hq0 : (0 : Int) ≤ (q : Int) := by omega
    by_cases hqi : q = i
    · have nq1 : ((q : Int) != (i : Int)) = false := by rw [hqi]; simp
      have nq2 : ((q : Int) == (i : Int)) = true := by rw [hqi]; simp
      rw [if_neg (fun h => h.1 hqi)] at HTT
      clear hkk hS hTT hqn hqn2 hlt hst hqi
      go_upto_region 6 with fail
      go_quiet (fail)
      obtain ⟨W1, hW1⟩ : ∃ V, wr.drewN nq = V := ⟨_, rfl⟩
      have E1 : Ext wr W1 := by rw [← hW1]; exact ext_drewN _ _
      rw [hW1]
      have HS := Lib.hid (HS.out.ext E1)
      clear hW1 E1 nq1 nq2
      go_wp2_with fail
      go_roundg (n - (q + 1))
      case measure => have := Hkk.out; have := Hlt.out; omega
      case rel => exact ⟨q + 1, T1, v1, rfl, Hlt.out, rfl, HS.out, HTT.out⟩
    have nq1 : ((q : Int) != (i : Int)) = true := by simp; omega
    have nq2 : ((q : Int) == (i : Int)) = false := bf (by omega)
    have Hqi := Lib.hid hqi
    have hpi : (l.map (actL T1))[i]? = some (actL T1 p) := by rw [List.getElem?_map, Hp.out]; rfl
    obtain ⟨hag, hGn, _⟩ := hS.at hpi
    obtain ⟨e0, e1, e2⟩ := hGn.c i _ hpi
    have hx1 := hS.x1
    rw [hag] at hx1
    have hpok := actL_ok Hn.out HT1.out (Hok.out p (List.mem_of_getElem? Hp.out))
    obtain ⟨C, c1, c2, c3⟩ := ask_bit hpok.2 (q := q) (by have := Hn.out; omega)
    have HSq := Lib.hid (HSet.out q hlt)
    obtain ⟨V, hV⟩ : ∃ V, 2 ^ q = V := ⟨_, rfl⟩
    rw [hV] at c1 HSq
    obtain ⟨bz, hbz⟩ : ∃ b, (actL T1 p).z.testBit q = b := ⟨_, rfl⟩
    rw [hbz] at c2 c3 HTT
    obtain ⟨pz, hpz⟩ : ∃ x, (actL T1 p).z = x := ⟨_, rfl⟩
    rw [hpz] at c1 e1
    clear hkk hS hTT hqn hqn2 hlt hst hqi hpi hGn hag e0 e2 hpok hV hbz hpz
    go_upto_region 6 with fail
    go_quiet ((go_at_call 49; refine Calls.quiet_of_same (HSq.out _)))
    obtain ⟨W1, hW1⟩ : ∃ V, wr.drewN nq = V := ⟨_, rfl⟩
    have E1 : Ext wr W1 := by rw [← hW1]; exact ext_drewN _ _
    rw [hW1]
    have HS := Lib.hid (HS.out.ext E1)
    clear hW1 E1 nq1 nq2 e1 hx1 c1 c2 c3
    cases bz with
    | false =>
      rw [if_neg (fun h => by exact absurd h.2 (by decide))] at HTT
      go_wp2_with fail
      go_roundg (n - (q + 1))
      case measure => have := Hkk.out; have := Hlt.out; omega
      case rel => exact ⟨q + 1, T1, v1, rfl, Hlt.out, rfl, HS.out, HTT.out⟩
    | true =>
      rw [if_pos ⟨Hqi.out, rfl⟩] at HTT
      have HD := Lib.hid (do_cx HS.out Hn.out Hng.out Hok.out HT1.out (by have := HT1l.out; have := Hlen.out; omega) (q := i) (c := q) (.cx Hi.out Hlt.out (by have := Hqi.out; omega)))
      go_wp2_with fail
      refine HD.out.mono ?_
      rintro e w4 ⟨⟨x4, rfl⟩, v4, hS4⟩
      have HS4 := Lib.hid hS4
      clear hS4 HD
      go_wp2_with fail
      go_roundg (n - (q + 1))
      case measure => have := Hkk.out; have := Hlt.out; omega
      case rel => exact ⟨q + 1, T1 ++ [wCX i q], v4, rfl, Hlt.out, rfl, HS4.out, by rw [actL_snoc, ← HTT.out]; simp⟩
end Go.Proofs.YtbmjobpobjfjeaaDoor
namespace Go.Proofs.YtbmjobpobjfjeaaDoor
open Go.RowKit

/-- The Z at qubit j. -/
def zQ (j : Nat) : QP := ⟨0, 2 ^ j, false⟩
theorem bit_pow (i j : Nat) : (2 ^ i).testBit j = decide (i = j) := Nat.testBit_two_pow
theorem flip_zQ {q j : Nat} (h : j ≠ q) : flipG q (zQ j) = zQ j := by
  refine QP.ext' rfl rfl ?_
  show (false ^^ (2 ^ j).testBit q) = false
  rw [bit_pow, decide_eq_false h]; rfl
theorem fork_zQ {q j : Nat} (h : j ≠ q) : forkG q (zQ j) = zQ j := by
  refine QP.ext' (Nat.eq_of_testBit_eq fun k => ?_) (Nat.eq_of_testBit_eq fun k => ?_) ?_
  · rw [fork_x]
    show (if q = k then (2 ^ j).testBit k else (0 : Nat).testBit k) = (0 : Nat).testBit k
    rw [Nat.zero_testBit, bit_pow]
    split
    · exact decide_eq_false (by omega)
    · rfl
  · rw [fork_z]
    show (if q = k then (0 : Nat).testBit k else (2 ^ j).testBit k) = (2 ^ j).testBit k
    rw [Nat.zero_testBit, bit_pow]
    split
    · exact (decide_eq_false (by omega)).symm
    · rfl
  · show (false ^^ ((0 : Nat).testBit q && (2 ^ j).testBit q)) = false
    rw [Nat.zero_testBit]; rfl
theorem quar_zQ (q j : Nat) : quarG q (zQ j) = zQ j := by
  refine QP.ext' rfl ?_ ?_
  · show 2 ^ j ^^^ (0 &&& 2 ^ q) = 2 ^ j
    rw [Nat.zero_and, Nat.xor_zero]
  · show (false ^^ ((0 : Nat).testBit q && (2 ^ j).testBit q)) = false
    rw [Nat.zero_testBit]; rfl
theorem on_zQ {q c j : Nat} (h : j ≠ q) : onG q c (zQ j) = zQ j := by
  have hb : (2 ^ j).testBit q = false := by rw [bit_pow]; exact decide_eq_false h
  refine QP.ext' ?_ ?_ ?_
  · show (if (0 : Nat).testBit c then 0 ^^^ 2 ^ q else 0) = 0
    rw [Nat.zero_testBit]; rfl
  · show (if (2 ^ j).testBit q then 2 ^ j ^^^ 2 ^ c else 2 ^ j) = 2 ^ j
    rw [hb]; rfl
  · show (false ^^ ((0 : Nat).testBit c && (2 ^ j).testBit q && ((0 : Nat).testBit q == (2 ^ j).testBit c))) = false
    rw [Nat.zero_testBit]; rfl

/-- All of them keep letters linear, commute or not as before, and have a way back. -/
structure Nice (n : Nat) (f : QP → QP) : Prop where
  lin : Lin f
  ant : ∀ p r, ant (f p) (f r) = ant p r
  fit : ∀ p : QP, p.x < 2 ^ n → p.z < 2 ^ n → (f p).x < 2 ^ n ∧ (f p).z < 2 ^ n
theorem Nice.comp {n : Nat} {f g : QP → QP} (hf : Nice n f) (hg : Nice n g) : Nice n (fun p => g (f p)) :=
  ⟨hf.lin.comp hg.lin, fun p r => (hg.ant _ _).trans (hf.ant p r), fun p h1 h2 => hg.fit _ (hf.fit p h1 h2).1 (hf.fit p h1 h2).2⟩
theorem nice_id (n : Nat) : Nice n (fun p => p) := ⟨lin_id, fun _ _ => rfl, fun _ h1 h2 => ⟨h1, h2⟩⟩
theorem pow_fit {q n : Nat} (h : q < n) : 2 ^ q < 2 ^ n := Nat.pow_lt_pow_right (by decide) h
theorem nice_flip (n q : Nat) : Nice n (flipG q) := ⟨lin_flip q, ant_flip q, fun _ h1 h2 => ⟨h1, h2⟩⟩
theorem nice_fork (n q : Nat) : Nice n (forkG q) := ⟨lin_fork q, ant_fork q, fun _ h1 h2 => ⟨Nat.xor_lt_two_pow h1 (Nat.lt_of_le_of_lt Nat.and_le_left (Nat.xor_lt_two_pow h1 h2)), Nat.xor_lt_two_pow h2 (Nat.lt_of_le_of_lt Nat.and_le_left (Nat.xor_lt_two_pow h1 h2))⟩⟩
theorem nice_quar (n q : Nat) : Nice n (quarG q) := ⟨lin_quar q, ant_quar q, fun _ h1 h2 => ⟨h1, Nat.xor_lt_two_pow h2 (Nat.lt_of_le_of_lt Nat.and_le_left h1)⟩⟩
theorem nice_on {n q c : Nat} (hn : n ≤ 16) (hq : q < n) (hc : c < n) (h : q ≠ c) : Nice n (onG q c) := by
  refine ⟨lin_on q c, ant_on h (by omega) (by omega), fun p h1 h2 => ⟨?_, ?_⟩⟩
  · show (if p.x.testBit c then p.x ^^^ 2 ^ q else p.x) < 2 ^ n
    split
    · exact Nat.xor_lt_two_pow h1 (pow_fit hq)
    · exact h1
  · show (if p.z.testBit q then p.z ^^^ 2 ^ c else p.z) < 2 ^ n
    split
    · exact Nat.xor_lt_two_pow h2 (pow_fit hc)
    · exact h2
theorem nice_it {n : Nat} {f : QP → QP} (h : Nice n f) : ∀ k, Nice n (itG f k)
  | 0 => nice_id n
  | k + 1 => h.comp (nice_it h k)
theorem nice_act {n : Nat} (hn : n ≤ 16) {o : Gop} (ho : WOk n o) : Nice n (actW o) := by
  cases ho with
  | x _ => rw [act_x]; exact nice_flip n _
  | cx h h2 h3 => rw [act_cx]; exact nice_on hn h h2 h3
  | h _ => rw [act_h]; exact nice_fork n _
  | p _ _ => rw [act_p]; exact nice_it (nice_quar n _) _
theorem nice_all {n : Nat} (hn : n ≤ 16) : ∀ {ops : List Gop}, (∀ o ∈ ops, WOk n o) → Nice n (actL ops)
  | [], _ => nice_id n
  | o :: r, h => (nice_act hn (h o (by simp))).comp (nice_all hn fun x hx => h x (List.mem_cons_of_mem _ hx))
/-- What undoes an operation of a way home. -/
theorem undo_act {n : Nat} {o : Gop} (ho : WOk n o) : WOk n (undoO o) ∧ ∀ p, actW (undoO o) (actW o p) = p := by
  cases ho with
  | @x q h =>
    rw [show undoO (wX q) = wX q from rfl]
    exact ⟨.x h, fun p => by rw [act_x]; exact flip_flip q p⟩
  | @cx q c h h2 h3 =>
    rw [show undoO (wCX q c) = wCX q c from rfl]
    exact ⟨.cx h h2 h3, fun p => by rw [act_cx]; exact on_on h3 p⟩
  | @h q h =>
    rw [show undoO (wH q) = wH q from rfl]
    exact ⟨.h h, fun p => by rw [act_h]; exact fork_fork q p⟩
  | @p q k h hk =>
    rcases hk with rfl | rfl
    · rw [show undoO (wP 1 q) = wP 3 q from rfl]
      exact ⟨.p h (Or.inr rfl), fun p => by rw [act_p, act_p]; exact quar_four q p⟩
    · rw [show undoO (wP 3 q) = wP 1 q from rfl]
      exact ⟨.p h (Or.inl rfl), fun p => by rw [act_p, act_p]; exact quar_four q p⟩
theorem undo_all {n : Nat} : ∀ {ops : List Gop}, (∀ o ∈ ops, WOk n o) → (∀ o ∈ invO ops, WOk n o) ∧ ∀ p, actL (invO ops) (actL ops p) = p
  | [], _ => ⟨fun o ho => by simp [invO] at ho, fun _ => rfl⟩
  | o :: r, h => by
    obtain ⟨h1, h2⟩ := undo_all (ops := r) fun x hx => h x (List.mem_cons_of_mem _ hx)
    obtain ⟨h3, h4⟩ := undo_act (h o (by simp))
    have e : invO (o :: r) = invO r ++ [undoO o] := by unfold invO; rw [List.reverse_cons, List.map_append]; rfl
    refine ⟨fun x hx => ?_, fun p => ?_⟩
    · rw [e] at hx
      rcases List.mem_append.1 hx with hx | hx
      · exact h1 x hx
      · rw [List.mem_singleton.1 hx]; exact h3
    · rw [e, actL_snoc, actL_cons, h2]
      exact h4 p

/-- Letters in the span of Paulis. -/
inductive InS (l : List QP) : Nat → Nat → Prop
  | zero : InS l 0 0
  | add {x z : Nat} {p : QP} (hp : p ∈ l) (h : InS l x z) : InS l (x ^^^ p.x) (z ^^^ p.z)
theorem lin_zero {f : QP → QP} (h : Lin f) (m : Bool) : (f ⟨0, 0, m⟩).x = 0 ∧ (f ⟨0, 0, m⟩).z = 0 := by
  have hx := h.x ⟨0, 0, m⟩ ⟨0, 0, m⟩ ⟨0, 0, m⟩ (Nat.xor_self 0).symm (Nat.xor_self 0).symm
  have hz := h.z ⟨0, 0, m⟩ ⟨0, 0, m⟩ ⟨0, 0, m⟩ (Nat.xor_self 0).symm (Nat.xor_self 0).symm
  exact ⟨by rw [hx, Nat.xor_self], by rw [hz, Nat.xor_self]⟩
theorem lin_let {f : QP → QP} (h : Lin f) {a b : QP} (h1 : a.x = b.x) (h2 : a.z = b.z) : (f a).x = (f b).x ∧ (f a).z = (f b).z := by
  have hx := h.x b ⟨0, 0, false⟩ a (by rw [h1]; exact (Nat.xor_zero _).symm) (by rw [h2]; exact (Nat.xor_zero _).symm)
  have hz := h.z b ⟨0, 0, false⟩ a (by rw [h1]; exact (Nat.xor_zero _).symm) (by rw [h2]; exact (Nat.xor_zero _).symm)
  rw [(lin_zero h false).1, Nat.xor_zero] at hx
  rw [(lin_zero h false).2, Nat.xor_zero] at hz
  exact ⟨hx, hz⟩
theorem xor_bit {z i : Nat} (hz : z < 2 ^ (i + 1)) (hb : z.testBit i = true) : z ^^^ 2 ^ i < 2 ^ i := by
  refine Nat.lt_pow_two_of_testBit _ fun j hj => ?_
  rw [Nat.testBit_xor, bit_pow]
  by_cases e : i = j
  · subst e; rw [hb, decide_eq_true rfl]; rfl
  · rw [decide_eq_false e, Bool.xor_false]
    exact Nat.testBit_lt_two_pow (Nat.lt_of_lt_of_le hz (Nat.pow_le_pow_right (by decide) (by omega)))
theorem no_bit {z i : Nat} (hz : z < 2 ^ (i + 1)) (hb : z.testBit i = false) : z < 2 ^ i := by
  refine Nat.lt_pow_two_of_testBit _ fun j hj => ?_
  by_cases e : i = j
  · subst e; exact hb
  · exact Nat.testBit_lt_two_pow (Nat.lt_of_lt_of_le hz (Nat.pow_le_pow_right (by decide) (by omega)))
/-- Where the first i are home, every product of the first i Zs comes from their span. -/
theorem span_home {f : QP → QP} (hf : Lin f) {l : List QP} : ∀ i, i ≤ l.length → (∀ j, j < i → f (l.getD j ⟨0, 0, false⟩) = zQ j) → ∀ z, z < 2 ^ i → ∃ x' z', InS (l.take i) x' z' ∧ (f ⟨x', z', false⟩).x = 0 ∧ (f ⟨x', z', false⟩).z = z
  | 0, _, _, z, hz => ⟨0, 0, .zero, (lin_zero hf false).1, by rw [(lin_zero hf false).2]; simp at hz; omega⟩
  | i + 1, hi, hj, z, hz => by
    have up : ∀ x' z', InS (l.take i) x' z' → InS (l.take (i + 1)) x' z' := fun x' z' h => by
      induction h with
      | zero => exact .zero
      | add hp _ ih => exact .add (by rw [List.take_add_one]; exact List.mem_append_left _ hp) ih
    cases hb : z.testBit i with
    | false =>
      obtain ⟨x', z', h1, h2, h3⟩ := span_home hf i (by omega) (fun j h => hj j (by omega)) z (no_bit hz hb)
      exact ⟨x', z', up _ _ h1, h2, h3⟩
    | true =>
      obtain ⟨x', z', h1, h2, h3⟩ := span_home hf i (by omega) (fun j h => hj j (by omega)) (z ^^^ 2 ^ i) (xor_bit hz hb)
      have hg := List.getElem?_eq_getElem (show i < l.length by omega)
      have hgd : l.getD i ⟨0, 0, false⟩ = l[i]'(by omega) := by rw [List.getD_eq_getElem?_getD, hg]; rfl
      have hm : l.getD i ⟨0, 0, false⟩ ∈ l.take (i + 1) := by
        rw [hgd, List.take_add_one, hg]
        exact List.mem_append_right _ (by simp)
      have hfi := hj i (by omega)
      refine ⟨_, _, .add hm (up _ _ h1), ?_, ?_⟩
      · rw [hf.x ⟨x', z', false⟩ (l.getD i ⟨0, 0, false⟩) _ rfl rfl, h2, hfi]
        exact Nat.xor_self 0
      · rw [hf.z ⟨x', z', false⟩ (l.getD i ⟨0, 0, false⟩) _ rfl rfl, h3, hfi]
        show (z ^^^ 2 ^ i) ^^^ 2 ^ i = z
        rw [Nat.xor_assoc, Nat.xor_self, Nat.xor_zero]
end Go.Proofs.YtbmjobpobjfjeaaDoor
