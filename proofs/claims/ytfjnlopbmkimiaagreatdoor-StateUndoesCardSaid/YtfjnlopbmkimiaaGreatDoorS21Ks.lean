/-
  What both sides answer, in one form: a circuit in memory of its own, and a fault. The reference's Control. Circuits without measurements in plain numbers: what undoes a gate behind it does nothing; a gate with a control where it is 0, where it is 1. Nothing of the program stands here. What the law asks of runs, in plain numbers. Nothing of the program stands here. Operations written over in place; the program's usesQubit and control.
-/
import Derived.Test.YtfjnlopbmkimiaaGreatDoorProg
import Derived.Test.YtfjnlopbmkimiaaGreatDoorRows
import Derived.BigQuiet
import Derived.Deep.AppendLies
import Derived.Deep.Cut
import Derived.Deep.CutRange
import Derived.Deep.LoopGhost
import Derived.Deep.MidRow
import Derived.Deep.QuietTactic
import Derived.Deep.RegionHeld3
import Derived.Defers
import Derived.Ground.Names2Prog
import Derived.Laws.AppendOwnNone
import Derived.Laws.Bits64b
import Derived.Laws.Concat
import Derived.Laws.CopyOwn
import Derived.Laws.IdiomCopy
import Derived.Laws.IdiomStrings
import Derived.Laws.ResultCell
import Derived.Laws.Rows
import Derived.Lib.AppendIntMem
import Derived.Lib.AppendStr
import Derived.Lib.AppendZeros
import Derived.Lib.AppendZerosOnto
import Derived.Lib.BitFns
import Derived.Lib.Hide
import Derived.Lib.ItoaMem
import Derived.Lib.ItoaNum
import Derived.Lib.Strings
import Derived.Lib.TrailingZeros
import Derived.LoopIn
import Derived.LoopNIn
import Derived.Maps.AppendAt
import Derived.OrdersHeld
import Derived.OrdersIn
import Derived.OwnWalk
import Derived.OwnWalkIn
import Derived.ProofKit
import Derived.RangeFuncBound
import Derived.RangeFuncCalls
import Derived.RangeFuncFrom
import Derived.RangeFuncLeaves
import Derived.Recover
import Derived.RegionTactic
import Derived.Shelf.Abstract
import Derived.Shelf.Bits.Mul64
import Derived.Shelf.LaysM
import Derived.Shelf.Slices.SearchI
import Derived.Shelf.Small.Bits
import Derived.Shelf.Small.Wraps
import Derived.Shelf.Spec.BitsCarry
import Derived.Shelf.Spec.TrailingZeros
import Derived.Shelf.Strconv.Itoa0
import Derived.Shelf.Strconv.Itoa1
import Derived.Shelf.Strconv.Itoa2
import Derived.Shelf.Strconv.Itoa3
import Derived.Shelf.Strings.Builder1
import Derived.Shelf.Strings.BuilderF
import Derived.Shelf.Strings.BuilderK
import Derived.TacticsInMore
import Derived.WalkKit
import Derived.WalkLawsBesides
import Derived.WalkSpells
import Derived.Test.YtfjnlopbmkimiaaGreatDoorS00Mem
import Derived.Test.YtfjnlopbmkimiaaGreatDoorShelf
import Derived.Test.YtfjnlopbmkimiaaGreatDoorS02ShiftI
import Derived.Test.YtfjnlopbmkimiaaGreatDoorS03GuessD
import Derived.Test.YtfjnlopbmkimiaaGreatDoorS04IntB
import Derived.Test.YtfjnlopbmkimiaaGreatDoorS05IntD
import Derived.Test.YtfjnlopbmkimiaaGreatDoorS06GcB
import Derived.Test.YtfjnlopbmkimiaaGreatDoorS07Rg
import Derived.Test.YtfjnlopbmkimiaaGreatDoorS08ZC
import Derived.Test.YtfjnlopbmkimiaaGreatDoorS09Bw
import Derived.Test.YtfjnlopbmkimiaaGreatDoorS10TxT
import Derived.Test.YtfjnlopbmkimiaaGreatDoorS11Xo
import Derived.Test.YtfjnlopbmkimiaaGreatDoorS12Xm
import Derived.Test.YtfjnlopbmkimiaaGreatDoorS13Yg
import Derived.Test.YtfjnlopbmkimiaaGreatDoorS14Rz
import Derived.Test.YtfjnlopbmkimiaaGreatDoorS15Yn
import Derived.Test.YtfjnlopbmkimiaaGreatDoorS16Xt
import Derived.Test.YtfjnlopbmkimiaaGreatDoorS17Dd
import Derived.Test.YtfjnlopbmkimiaaGreatDoorS18Jj
import Derived.Test.YtfjnlopbmkimiaaGreatDoorS19Kd
import Derived.Test.YtfjnlopbmkimiaaGreatDoorS20Km
namespace Go.Proofs.YtfjnlopbmkimiaaGreatDoor
open Go.RowKit

/-- A circuit and a fault are answered, the circuit in memory that is not older than w. -/
def Ans (w w' : World) (e : Ending) (r : (Int × Int) × Gci) : Prop :=
  ∃ (a : Option Addr) (m c : Nat), e = .returned (.tuple #[.agg #[.int .i64 r.2.qubits, .int .i64 r.2.bits, .slice a m c], .agg #[.int .i64 r.1.1, .int .i64 r.1.2]]) ∧ OpsN w' w.heap.size (.slice a m c) r.2.ops
/-- No circuit. -/
def noC : Gci := ⟨0, 0, []⟩
theorem Ans.none {w w' : World} {e : Ending} {F : Int × Int} (h : e = .returned (.tuple #[.agg #[.int .i64 0, .int .i64 0, .slice none 0 0], .agg #[.int .i64 F.1, .int .i64 F.2]])) : Ans w w' e (F, noC) := ⟨.none, 0, 0, h, OpsN.nil _ _⟩

def invM (c : Gci) : (Int × Int) × Gci := if (pur c).1 ≠ 0 then (pur c, noC) else ((0, 0), ⟨c.qubits, c.bits, invO c.ops⟩)
def thnM (a b : Gci) : (Int × Int) × Gci := if (thnF a b).1 ≠ 0 then (thnF a b, noC) else ((0, 0), ⟨a.qubits, a.bits, a.ops ++ b.ops⟩)

section
variable (c : Gci) (ao : Option Addr) (n cp : Nat) (w : World) (h : OpsAt w ao n c.ops) (hn : n ≤ cp) (hcp : cp ≤ 9223372036854775807)
include h hn hcp
theorem Inverse_U (hS : Shp w) : Calls Tryz.prog 16 #[.agg #[.int .i64 c.qubits, .int .i64 c.bits, .slice ao n cp]] w fun e w' => Ans w w' e (invM c) ∧ Ext w w' := by
  unfold invM
  by_cases hp : (pur c).1 ≠ 0
  · rw [if_pos hp]
    exact (Inverse_no c ao n cp w h hn hcp hS hp).mono fun e w' h => ⟨Ans.none h.1, h.2⟩
  · rw [if_neg hp]
    refine (Inverse_N c ao n cp w h hn hcp hS (by omega)).mono ?_
    rintro e w' ⟨⟨a', c', rfl, hO⟩, hx⟩
    exact ⟨⟨a', n, c', rfl, hO.down (by omega)⟩, hx⟩
end
section
variable (a b : Gci) (ao : Option Addr) (n cp : Nat) (bo : Option Addr) (m cq : Nat) (w : World) (hA : OpsAt w ao n a.ops) (hB : OpsAt w bo m b.ops) (hn : n ≤ cp) (hcp : cp ≤ 9223372036854775807) (hm : m ≤ cq) (hcq : cq ≤ 9223372036854775807)
include hA hB hn hcp hm hcq
theorem Then_U (hna : ao = none → cp = 0) (hnb : bo = none → cq = 0) (hS : Shp w) : Calls Tryz.prog 18 #[.agg #[.int .i64 a.qubits, .int .i64 a.bits, .slice ao n cp], .agg #[.int .i64 b.qubits, .int .i64 b.bits, .slice bo m cq]] w fun e w' => Ans w w' e (thnM a b) ∧ Ext w w' := by
  unfold thnM
  refine (Then_any a b ao n cp bo m cq w hA hB hn hcp hm hcq hna hnb hS).mono ?_
  rintro e w' ⟨⟨h1, rfl⟩ | ⟨h1, a', c', rfl, hO⟩, hx⟩
  · rw [if_pos h1]
    exact ⟨Ans.none rfl, hx⟩
  · rw [if_neg (by omega)]
    exact ⟨⟨a', n + m, c', rfl, hO⟩, hx⟩
end
/-- A row of the call's own that is nil has no room. -/
theorem OpsN.nil_cap {w : World} {base : Nat} {a : Option Addr} {n c : Nat} {ops : List Gop} (h : OpsN w base (.slice a n c) ops) : a = none → c = 0 := by
  intro e
  subst e
  obtain ⟨xs, hx⟩ := h
  rcases hx.own.2 with ⟨e, _⟩ | ⟨g, cap, cur, e, _⟩
  · injection e with _ _ e3
  · injection e with e1
    cases e1

end Go.Proofs.YtfjnlopbmkimiaaGreatDoor
namespace Go.Proofs.YtfjnlopbmkimiaaGreatDoor
open Go.RowKit

/-- The first operation that uses qubit q already. -/
def clnF (q : Int) : Nat → List Gop → Int × Int
  | _, [] => (0, 0)
  | i, o :: r => if ¬ o.kind = 1 ∧ (o.q = q ∨ q ∈ o.ctl) then (12, (i : Int)) else clnF q (i + 1) r
def ctrO (q : Int) (g : Gop) : Gop := if g.kind = 1 then ⟨4, g.k, [], q, 0, []⟩ else ⟨g.kind, g.k, q :: g.ctl, g.q, g.bit, g.cnd⟩
def ctrF (c : Gci) (q : Int) : Int × Int :=
  if (chk c).1 ≠ 0 then chk c else if q < 0 ∨ c.qubits ≤ q then (10, 0) else if (pur c).1 ≠ 0 then pur c else clnF q 0 c.ops
def ctrM (c : Gci) (q : Int) : (Int × Int) × Gci := if (ctrF c q).1 ≠ 0 then (ctrF c q, noC) else ((0, 0), ⟨c.qubits, c.bits, c.ops.map (ctrO q)⟩)
theorem clnF_step (q : Int) (ops : List Gop) (i : Nat) (g : Gop) (h : ops[i]? = some g) : clnF q i (ops.drop i) = if ¬ g.kind = 1 ∧ (g.q = q ∨ q ∈ g.ctl) then (12, (i : Int)) else clnF q (i + 1) (ops.drop (i + 1)) := by
  obtain ⟨hi, e⟩ := List.getElem?_eq_some_iff.1 h
  rw [List.drop_eq_getElem_cons hi, clnF, e]
theorem clnF_end (q : Int) (ops : List Gop) (i : Nat) (h : ops.length ≤ i) : clnF q i (ops.drop i) = (0, 0) := by
  rw [List.drop_eq_nil_of_le h]; rfl
theorem ctrM_no {c : Gci} {q : Int} {u v : Int} (h : ctrF c q = (u, v)) (hu : u ≠ 0) : ctrM c q = ((u, v), noC) := by
  unfold ctrM
  rw [h, if_pos hu]
theorem ctrM_yes {c : Gci} {q : Int} (h : ctrF c q = (0, 0)) : ctrM c q = ((0, 0), ⟨c.qubits, c.bits, c.ops.map (ctrO q)⟩) := by
  unfold ctrM
  rw [h, if_neg (by simp)]
theorem ctrO_1 {kd k : Int} {ctl cnd : List Int} {x b : Int} (q : Int) (h : kd = 1) : ctrO q ⟨kd, k, ctl, x, b, cnd⟩ = ⟨4, k, [], q, 0, []⟩ := by unfold ctrO; rw [if_pos h]
theorem ctrO_2 {kd k : Int} {ctl cnd : List Int} {x b : Int} (q : Int) (h : ¬ kd = 1) : ctrO q ⟨kd, k, ctl, x, b, cnd⟩ = ⟨kd, k, q :: ctl, x, b, cnd⟩ := by unfold ctrO; rw [if_neg h]
theorem iC_one (l : List Int) : ∀ u ∈ iC l, u.oneCell' = true := fun u hu => by
  unfold iC at hu
  obtain ⟨x, _, rfl⟩ := List.mem_map.1 hu
  rfl
theorem io_nil (w : World) (base : Nat) : Iow w base none 0 0 [] := ⟨rfl, Or.inl ⟨rfl, rfl⟩⟩
theorem OpBx.store {W : World} {g : Nat} {k0 k1 : Int} {a1 : Option Addr} {n1 c1 : Nat} {k3 k4 : Int} {a2 : Option Addr} {n2 c2 : Nat} (h : OpBx W g k0 k1 a1 n1 c1 k3 k4 a2 n2 c2) (j0 j1 : Int) (b1 : Option Addr) (m1 d1 : Nat) (j3 j4 : Int) (b2 : Option Addr) (m2 d2 : Nat) :
    OpBx ((((((W.setCell ⟨g, 0, none⟩ (.int .i64 j0)).setCell ⟨g, 1, none⟩ (.int .i64 j1)).setCell ⟨g, 2, none⟩ (.slice b1 m1 d1)).setCell ⟨g, 3, none⟩ (.int .i64 j3)).setCell ⟨g, 4, none⟩ (.int .i64 j4)).setCell ⟨g, 5, none⟩ (.slice b2 m2 d2)) g j0 j1 b1 m1 d1 j3 j4 b2 m2 d2 :=
  ⟨row_put (row_put (row_put (row_put (row_put (row_put h.row rfl) rfl) rfl) rfl) rfl) rfl⟩

end Go.Proofs.YtfjnlopbmkimiaaGreatDoor
namespace Go.Proofs.YtfjnlopbmkimiaaGreatDoor

/-- Gates, one behind the other. -/
noncomputable def rnG (ops : List Gop) (s : Nat → Nm) : Nat → Nm := ops.foldl (fun s o => gt o s) s
theorem rnG_app (a b : List Gop) (s : Nat → Nm) : rnG (a ++ b) s = rnG b (rnG a s) := List.foldl_append
/-- A number as a state has it. -/
def Kpt (x : Nm) : Prop := Low x ∧ Anti x.a
theorem Kpt.zero : Kpt nZ := ⟨low_nZ, anti_nZ⟩
theorem Kpt.one : Kpt nOne := ⟨Or.inl rfl, anti_one⟩
theorem Kpt.tr {x : Nm} (h : Kpt x) (m : Int) : Kpt (nTr m x) := ⟨h.1.tr m, h.2.tr m⟩
theorem Kpt.neg {x : Nm} (h : Kpt x) : Kpt (nNeg x) := ⟨h.1.neg, h.2.neg'⟩
theorem Kpt.hf {x y : Nm} (hx : Kpt x) (hy : Kpt y) : Kpt (lw (nHf (nAdd x y))) := ⟨lw_low _, lw_anti (anti_hf (anti_add hx.2 hy.2))⟩
theorem gt_kp {o : Gop} {s : Nat → Nm} (h : ∀ x, Kpt (s x)) (x : Nat) : Kpt (gt o s x) := by
  unfold gt
  split
  · split
    · exact (h x).tr _
    · split
      · split
        · exact (h x).tr _
        · exact h x
      · split
        · exact h _
        · refine (h _).hf ?_
          split
          · exact (h x).neg
          · exact h x
  · exact h x
theorem tr_tr (a b : Int) (x : Nm) : nTr a (nTr b x) = nTr (a + b) x := by
  unfold nTr
  congr 1
  funext k
  show x.a (k - a - b) = x.a (k - (a + b))
  congr 1
  omega
theorem tr_full {x : Nm} (h : Anti x.a) : nTr 16 x = x := by
  obtain ⟨a, e⟩ := x
  unfold nTr
  congr 1
  funext k
  have h1 : a (k - 16 + 8) = -a (k - 16) := h (k - 16)
  have h2 : a (k - 8 + 8) = -a (k - 8) := h (k - 8)
  rw [show k - 16 + 8 = k - 8 by omega] at h1
  rw [show k - 8 + 8 = k by omega] at h2
  show a (k - 16) = a k
  omega
theorem tr_nil (x : Nm) : nTr 0 x = x := by
  obtain ⟨a, e⟩ := x
  unfold nTr
  congr 1
  funext k
  show a (k - 0) = a k
  rw [Int.sub_zero]
theorem tr_back {x : Nm} {k : Int} (hk : 0 ≤ k ∧ k ≤ 15) (h : Anti x.a) : nTr (opp k) (nTr k x) = x := by
  rw [tr_tr, opp_eq hk]
  split
  · rename_i e; rw [e]; exact tr_nil x
  · rw [show 16 - k + k = 16 by omega]; exact tr_full h
theorem hf_hf {x : Nm} (h : Anti x.a) : EqN (nHf (nHf (nAdd x x))) x := fun k => by
  have h1 := h (k - 4)
  rw [show k - 4 + 8 = k + 4 by omega] at h1
  simp only [nHf, nAdd, addR, trR, Int.pow_succ, Int.pow_add]
  rw [show k - 2 - 2 = k - 4 by omega, show k - 2 - -2 = k by omega, show k - -2 - 2 = k by omega, show k - -2 - -2 = k + 4 by omega, h1]
  grind
theorem add_diff (x y : Nm) : EqN (nAdd (nAdd x (nNeg y)) (nAdd y x)) (nAdd x x) := fun k => by
  simp only [nAdd, nNeg, negR, Int.pow_add]; grind
theorem add_diff2 (x y : Nm) : EqN (nAdd (nAdd x y) (nNeg (nAdd y (nNeg x)))) (nAdd x x) := fun k => by
  simp only [nAdd, nNeg, negR, Int.pow_add]; grind
/-- What undoes a gate. -/
theorem gt_undo {o : Gop} {n b : Int} (hc : opCode o n b = 0) (hf : PlFit o n b) {s : Nat → Nm} (h : ∀ x, Kpt (s x)) : gt (undoO o) (gt o s) = s := by
  have hK := opk_range hc
  have hcl : ∀ c ∈ o.ctl, 0 ≤ c ∧ c ≠ o.q := fun c hm => ⟨(hf.ctl c hm).1, hf.ne c hm⟩
  funext x
  have hfx : ons (fl x o.q) o.ctl = ons x o.ctl := onsFl hf.q.1 hcl
  unfold gt undoO
  simp only
  by_cases ho : ons x o.ctl = true
  · simp only [ho, hfx, if_true]
    by_cases h1 : o.kind = 1
    · simp only [h1, if_true]
      exact tr_back hK (h x).2
    simp only [h1, if_false]
    by_cases h4 : o.kind = 4
    · simp only [h4, if_true]
      cases hb : bt x o.q
      · simp
      · simp only [if_true]; exact tr_back hK (h x).2
    simp only [h4, if_false]
    by_cases h2 : o.kind = 2
    · simp only [h2, if_true, fl_fl]
    simp only [h2, if_false, fl_fl, bt_fl]
    refine (lw_one (h x).1 (EqN.symm ?_)).symm
    cases hb : bt x o.q
    · simp only [Bool.not_false, if_true, Bool.false_eq_true, if_false]
      refine (EqN.hf ((EqN.add (lw_eq _) (lw_eq _)).trans ((hf_add _ _).trans (EqN.hf (add_diff (s x) (s (fl x o.q))))))).trans (hf_hf (h x).2)
    · simp only [Bool.not_true, if_true, Bool.false_eq_true, if_false]
      refine (EqN.hf ((EqN.add (lw_eq _) (EqN.neg (lw_eq _))).trans ?_)).trans (hf_hf (h x).2)
      rw [← hf_neg]
      exact (hf_add _ _).trans (EqN.hf (add_diff2 (s x) (s (fl x o.q))))
  · have ho' : ons x o.ctl = false := by simpa using ho
    simp only [ho', Bool.false_eq_true, if_false]
/-- A circuit, and what undoes it behind it. -/
theorem rnG_undo {n b : Int} : ∀ (ops : List Gop), (∀ o ∈ ops, opCode o n b = 0 ∧ PlFit o n b ∧ o.kind < 5) → ∀ s : Nat → Nm, (∀ x, Kpt (s x)) → rnG (ops ++ invO ops) s = s
  | [], _, s, _ => rfl
  | o :: r, hall, s, h => by
    have hr := rnG_undo r (fun p hp => hall p (by simp [hp])) (gt o s) (gt_kp h)
    obtain ⟨h1, h2, _⟩ := hall o (by simp)
    have e : invO (o :: r) = invO r ++ [undoO o] := by unfold invO; simp
    rw [e, ← List.append_assoc, List.cons_append, rnG_app]
    have : rnG (o :: (r ++ invO r)) s = gt o s := hr
    rw [this]
    exact gt_undo h1 h2 h

/-- A gate with a control that is 0. -/
theorem ctr_off {q : Int} {o : Gop} {s : Nat → Nm} (hne : o.kind ≠ 1 → o.q.toNat ≠ q.toNat) (h : ∀ x, bt x q = true → s x = nZ) : gt (ctrO q o) s = s := by
  funext x
  unfold ctrO
  by_cases h1 : o.kind = 1
  · rw [if_pos h1]
    unfold gt
    simp only [ons, List.all_nil, if_true, show ¬ ((4 : Int) = 1) by decide, if_false]
    cases hb : bt x q
    · simp
    · simp only [if_true]; rw [h x hb, tr_z]
  · rw [if_neg h1]
    unfold gt
    simp only [ons, List.all_cons]
    cases hb : bt x q
    · simp
    · have hx := h x hb
      have hy : s (fl x o.q) = nZ := h _ (by rw [bt_fl_ne (fun e => hne h1 e.symm)]; exact hb)
      simp only [Bool.true_and, hx, hy, tr_z, neg_z, ite_self]
      rw [lw_z hf_z]
      simp
/-- Where it is nought stays nought. -/
theorem gt_nought {q : Int} {v : Bool} {o : Gop} {s : Nat → Nm} (hne : o.kind ≠ 1 → o.q.toNat ≠ q.toNat) (h : ∀ x, bt x q = v → s x = nZ) : ∀ x, bt x q = v → gt o s x = nZ := by
  intro x hb
  have hx := h x hb
  unfold gt
  by_cases h1 : o.kind = 1
  · simp only [h1, if_true, hx, tr_z, ite_self]
  · have hy : s (fl x o.q) = nZ := h _ (by rw [bt_fl_ne (fun e => hne h1 e.symm)]; exact hb)
    simp only [hx, hy, tr_z, neg_z, ite_self]
    rw [lw_z hf_z]
    simp
/-- A gate with a control that is 1. -/
theorem ctr_on {q : Int} {o : Gop} {s : Nat → Nm} (hne : o.kind ≠ 1 → o.q.toNat ≠ q.toNat) (hph : o.kind = 1 → o.ctl = []) (h : ∀ x, bt x q = false → s x = nZ) : gt (ctrO q o) s = gt o s := by
  funext x
  cases hb : bt x q
  · rw [gt_nought (v := false) hne h x hb]
    unfold ctrO
    by_cases h1 : o.kind = 1
    · rw [if_pos h1]
      unfold gt
      simp [ons, hb, h x hb]
    · rw [if_neg h1]
      unfold gt
      simp [ons, hb, h x hb]
  · unfold ctrO
    by_cases h1 : o.kind = 1
    · rw [if_pos h1]
      unfold gt
      simp [ons, hb, h1, hph h1]
    · rw [if_neg h1]
      unfold gt
      simp [ons, hb, h1]
theorem rnG_off {q : Int} : ∀ (ops : List Gop), (∀ o ∈ ops, o.kind ≠ 1 → o.q.toNat ≠ q.toNat) → ∀ s : Nat → Nm, (∀ x, bt x q = true → s x = nZ) → rnG (ops.map (ctrO q)) s = s
  | [], _, _, _ => rfl
  | o :: r, hall, s, h => by
    show rnG (r.map (ctrO q)) (gt (ctrO q o) s) = s
    rw [ctr_off (hall o (by simp)) h]
    exact rnG_off r (fun p hp => hall p (by simp [hp])) s h
theorem rnG_on {q : Int} : ∀ (ops : List Gop), (∀ o ∈ ops, (o.kind ≠ 1 → o.q.toNat ≠ q.toNat) ∧ (o.kind = 1 → o.ctl = [])) → ∀ s : Nat → Nm, (∀ x, bt x q = false → s x = nZ) → rnG (ops.map (ctrO q)) s = rnG ops s
  | [], _, _, _ => rfl
  | o :: r, hall, s, h => by
    show rnG (r.map (ctrO q)) (gt (ctrO q o) s) = rnG r (gt o s)
    obtain ⟨h1, h2⟩ := hall o (by simp)
    rw [ctr_on h1 h2 h]
    exact rnG_on r (fun p hp => hall p (by simp [hp])) _ (gt_nought h1 h)
/-- A circuit without measurements. -/
theorem plM_pure (want : List Int) : ∀ (ops : List Gop) (i : Nat) (s : Nat → Nm) (bits : List Int) (u : Nat), (∀ o ∈ ops, o.kind < 5 ∧ o.cnd.length = 0) → plM want ops i s bits u = ⟨(0, 0), rnG ops s, bits, u⟩
  | [], _, _, _, _, _ => rfl
  | o :: r, i, s, bits, u, h => by
    obtain ⟨h1, h2⟩ := h o (by simp)
    rw [plM_gate (by rw [List.eq_nil_of_length_eq_zero h2]; rfl) h1, plM_pure want r _ _ _ _ (fun p hp => h p (by simp [hp]))]
    rfl
end Go.Proofs.YtfjnlopbmkimiaaGreatDoor
namespace Go.Proofs.YtfjnlopbmkimiaaGreatDoor

theorem Pur.chk {qb bi : Int} {ops : List Gop} (h : Pur qb bi ops) : Go.Proofs.YtfjnlopbmkimiaaGreatDoor.chk ⟨qb, bi, ops⟩ = (0, 0) := by
  have h1 := h.q; have h2 := h.b; have h3 := h.l
  unfold Go.Proofs.YtfjnlopbmkimiaaGreatDoor.chk
  rw [if_neg (by simp only; omega), if_neg (by simp only; omega), if_neg (by simp only; omega)]
  exact opsCode_of 0 (fun g hg => (h.o g hg).1)
theorem Pur.fit {qb bi : Int} {ops : List Gop} (h : Pur qb bi ops) : ∀ o ∈ ops, opCode o qb bi = 0 ∧ PlFit o qb bi ∧ o.kind < 5 := fun o ho => by
  obtain ⟨h1, h2, _⟩ := h.o o ho
  exact ⟨h1, plFit_of_code h.q.1 h.q.2 h.b.1 h.b.2 h1, h2⟩
theorem Pur.app {qb bi : Int} {a b : List Gop} (h : Pur qb bi a) (k : Pur qb bi b) (hl : a.length + b.length ≤ 4096) : Pur qb bi (a ++ b) :=
  ⟨h.q, h.b, by rw [List.length_append]; exact hl, fun g hg => (List.mem_append.1 hg).elim (h.o g) (k.o g)⟩
/-- A run of a circuit without measurements. -/
theorem Pur.run {qb bi : Int} {ops : List Gop} (h : Pur qb bi ops) {x : Int} (h0 : 0 ≤ x) (hx : x < ((2 ^ qb.toNat : Nat) : Int)) : shoR ⟨qb, bi, ops⟩ x [] = ⟨(0, 0), rnG ops (bas x.toNat), List.replicate bi.toNat 0, 0⟩ ∧ shoF ⟨qb, bi, ops⟩ x [] = (0, 0) := by
  have h1 : shoR ⟨qb, bi, ops⟩ x [] = ⟨(0, 0), rnG ops (bas x.toNat), List.replicate bi.toNat 0, 0⟩ := plM_pure [] ops 0 _ _ 0 (fun o ho => (h.o o ho).2)
  refine ⟨h1, ?_⟩
  have h2 : stF ⟨qb, bi, ops⟩ x = (0, 0) := by
    unfold stF
    rw [h.chk, if_neg (by decide), if_neg (by simp only; omega)]
  unfold shoF
  rw [h2, h1, if_neg (by decide)]
theorem bas_kp (x y : Nat) : Kpt (bas x y) := by
  unfold bas
  split
  · exact Kpt.one
  · exact Kpt.zero
/-- .. and what undoes it behind it. -/
theorem Pur.undone {qb bi : Int} {ops : List Gop} (h : Pur qb bi ops) (x : Nat) : rnG (ops ++ invO ops) (bas x) = bas x := rnG_undo ops h.fit (bas x) (bas_kp x)

theorem ctl_more {q n x : Int} : ∀ (l s : List Int), x ∉ l → ctlCode q n s l = 0 → ctlCode q n (x :: s) l = 0
  | [], _, _, _ => rfl
  | c :: r, s, hx, h => by
    unfold ctlCode at h ⊢
    by_cases h1 : below c n = false
    · rw [if_pos h1] at h; exact absurd h (by decide)
    rw [if_neg h1] at h ⊢
    by_cases h2 : c = q ∨ c ∈ s
    · rw [if_pos h2] at h; exact absurd h (by decide)
    rw [if_neg h2] at h
    have h3 : ¬ (c = q ∨ c ∈ x :: s) := fun e => by
      rcases e with e | e
      · exact h2 (Or.inl e)
      · rcases List.mem_cons.1 e with e | e
        · exact hx (by rw [e]; simp)
        · exact h2 (Or.inr e)
    rw [if_neg h3]
    exact ctl_more r (s ++ [c]) (fun e => hx (by simp [e])) h
theorem cln_free {q : Int} : ∀ (ops : List Gop) (i : Nat), (clnF q i ops).1 = 0 → ∀ o ∈ ops, ¬ o.kind = 1 → o.q ≠ q ∧ q ∉ o.ctl
  | [], _, _ => fun o ho => by simp at ho
  | p :: r, i, h => by
    unfold clnF at h
    split at h
    · simp at h
    rename_i hn
    intro o ho hk
    rcases List.mem_cons.1 ho with rfl | ho
    · exact ⟨fun e => hn ⟨hk, Or.inl e⟩, fun e => hn ⟨hk, Or.inr e⟩⟩
    · exact cln_free r (i + 1) h o ho hk
theorem ctr_code {q n b : Int} {o : Gop} (h : opCode o n b = 0) (hk : o.kind < 5) (hcd : o.cnd.length = 0) (hq0 : 0 ≤ q) (hqn : q < n) (hfree : ¬ o.kind = 1 → o.q ≠ q ∧ q ∉ o.ctl) : opCode (ctrO q o) n b = 0 ∧ (ctrO q o).kind < 5 ∧ (ctrO q o).cnd.length = 0 := by
  have hkr := opk_range h
  unfold ctrO
  by_cases h1 : o.kind = 1
  · rw [if_pos h1]
    refine ⟨?_, by simp, rfl⟩
    unfold opCode
    have e1 : fitsB o.k 16 (usesK 4) = true := by
      unfold fitsB
      rw [if_pos (by decide)]
      exact below_iff.2 (by omega)
    have e2 : fitsB q n (usesQ 4) = true := by
      unfold fitsB
      rw [if_pos (by decide)]
      exact below_iff.2 (by omega)
    simp only [e1, e2]
    rw [if_neg (by omega), if_neg (by decide), if_neg (by decide), if_neg (by decide)]
    have e3 : fitsB 0 b (usesB 4) = true := rfl
    have e4 : cndOk b [] = true := rfl
    simp [ctlCode, e3, e4]
  · rw [if_neg h1]
    obtain ⟨f1, f2⟩ := hfree h1
    refine ⟨?_, hk, hcd⟩
    have h' := h
    unfold opCode at h' ⊢
    simp only at h' ⊢
    split at h'
    · omega
    rename_i g1
    split at h'
    · omega
    rename_i g2
    split at h'
    · omega
    rename_i g3
    split at h'
    · omega
    rename_i g4
    split at h'
    · exact absurd h' (by assumption)
    rename_i g5
    split at h'
    · omega
    rename_i g6
    split at h'
    · omega
    rename_i g7
    have u : usesC o.kind = true := by
      unfold usesC
      have : o.kind = 2 ∨ o.kind = 3 ∨ o.kind = 4 := by omega
      rcases this with e | e | e <;> rw [e] <;> rfl
    have c0 : ctlCode o.q n [] o.ctl = 0 := by
      by_cases e : ctlCode o.q n [] o.ctl = 0
      · exact e
      · exact absurd e g5
    have c1 : ctlCode o.q n [] (q :: o.ctl) = 0 := by
      unfold ctlCode
      have hb : ¬ below q n = false := by rw [below_iff.2 ⟨hq0, hqn⟩]; decide
      rw [if_neg hb, if_neg (by simp; exact fun e => f1 e.symm), List.nil_append]
      exact ctl_more o.ctl [] f2 c0
    rw [if_neg g1, if_neg g2, if_neg g3, if_neg (by rw [u]; simp), c1, if_neg (by simp), if_neg g6, if_neg g7]
theorem Pur.ctr {qb bi q : Int} {ops : List Gop} (h : Pur qb bi ops) (hq0 : 0 ≤ q) (hqn : q < qb) (hc : (clnF q 0 ops).1 = 0) : Pur qb bi (ops.map (ctrO q)) :=
  ⟨h.q, h.b, by rw [List.length_map]; exact h.l, fun g hg => by
    obtain ⟨o, ho, rfl⟩ := List.mem_map.1 hg
    obtain ⟨h1, h2, h3⟩ := h.o o ho
    exact ctr_code h1 h2 h3 hq0 hqn (cln_free ops 0 hc o ho)⟩
theorem Pur.apart {qb bi q : Int} {ops : List Gop} (h : Pur qb bi ops) (hq0 : 0 ≤ q) (hc : (clnF q 0 ops).1 = 0) : ∀ o ∈ ops, (o.kind ≠ 1 → o.q.toNat ≠ q.toNat) ∧ (o.kind = 1 → o.ctl = []) := fun o ho => by
  obtain ⟨h1, h2, _⟩ := h.fit o ho
  refine ⟨fun hk e => ?_, fun hk => phase_free h1 hk⟩
  have := (cln_free ops 0 hc o ho hk).1
  have := h2.q
  omega
/-- Where the control is 0. -/
theorem Pur.off {qb bi q : Int} {ops : List Gop} (h : Pur qb bi ops) (hq0 : 0 ≤ q) (hc : (clnF q 0 ops).1 = 0) {x : Nat} (hb : bt x q = false) : rnG (ops.map (ctrO q)) (bas x) = bas x :=
  rnG_off ops (fun o ho => (h.apart hq0 hc o ho).1) (bas x) (fun y hy => by
    unfold bas
    rw [if_neg (fun e => by rw [e, hb] at hy; cases hy)])
/-- Where it is 1. -/
theorem Pur.on {qb bi q : Int} {ops : List Gop} (h : Pur qb bi ops) (hq0 : 0 ≤ q) (hc : (clnF q 0 ops).1 = 0) {x : Nat} (hb : bt x q = true) : rnG (ops.map (ctrO q)) (bas x) = rnG ops (bas x) :=
  rnG_on ops (h.apart hq0 hc) (bas x) (fun y hy => by
    unfold bas
    rw [if_neg (fun e => by rw [e, hb] at hy; cases hy)])
end Go.Proofs.YtfjnlopbmkimiaaGreatDoor
namespace Go.Proofs.YtfjnlopbmkimiaaGreatDoor
open Go.RowKit

/-- The first i of them are turned by f. -/
def mapF (f : Gop → Gop) (ops : List Gop) (i : Nat) : List Gop := (ops.take i).map f ++ ops.drop i
theorem mapF_len (f : Gop → Gop) (ops : List Gop) (i : Nat) : (mapF f ops i).length = ops.length := by
  unfold mapF
  simp only [List.length_append, List.length_map, List.length_take, List.length_drop]
  omega
theorem mapF_get {f : Gop → Gop} {ops : List Gop} {i t : Nat} (ht : t < ops.length) : (mapF f ops i)[t]? = if t < i then ops[t]?.map f else ops[t]? := by
  unfold mapF
  by_cases h : t < i
  · rw [if_pos h, List.getElem?_append_left (by rw [List.length_map, List.length_take]; omega), List.getElem?_map, List.getElem?_take, if_pos h]
  · rw [if_neg h, List.getElem?_append_right (by rw [List.length_map, List.length_take]; omega), List.length_map, List.length_take, List.getElem?_drop]
    congr 1; omega
theorem mapF_zero (f : Gop → Gop) (ops : List Gop) : mapF f ops 0 = ops := by simp [mapF]
theorem mapF_all {f : Gop → Gop} {ops : List Gop} {i : Nat} (h : ops.length ≤ i) : mapF f ops i = ops.map f := by
  unfold mapF
  rw [List.take_of_length_le h, List.drop_eq_nil_of_le h, List.append_nil]
/-- An operation of a row is written over. -/
theorem rowF_set {w w' : World} {base : Nat} {f : Gop → Gop} {cs : Array Value} {ops : List Gop} {n i : Nat} {g g' : Gop} {b1 : Option Addr} {m1 d1 : Nat} {b2 : Option Addr} {m2 d2 : Nat} (hl : ops.length = n) (hi : i < n) (hsz : n * 6 ≤ cs.size) (h : RowF w base (fun p => cs[p]?) (mapF f ops i)) (hg : ops[i]? = some g) (hg' : f g = g')
    (hk : ∀ t x a1 n1 c1 a2 n2 c2, t ≠ i → t < n → cs[t * 6 + 2]? = some (.slice a1 n1 c1) → cs[t * 6 + 5]? = some (.slice a2 n2 c2) → OpN w base x a1 n1 c1 a2 n2 c2 → OpN w' base x a1 n1 c1 a2 n2 c2) (hn : OpN w' base g' b1 m1 d1 b2 m2 d2) :
    RowF w' base (fun p => (set6 cs (i * 6) (opF g' b1 m1 d1 b2 m2 d2))[p]?) (mapF f ops (i + 1)) := by
  intro t x hx
  have ht : t < n := by have := (List.getElem?_eq_some_iff.1 hx).1; rw [mapF_len, hl] at this; exact this
  rw [mapF_get (by omega)] at hx
  by_cases e : t = i
  · subst e
    rw [if_pos (by omega), hg] at hx
    simp only [Option.map_some, Option.some.injEq] at hx
    rw [hg'] at hx
    subst hx
    have hin := fun k hk => set6_in cs (t * 6) (opF g' b1 m1 d1 b2 m2 d2) k hk (by omega)
    exact ⟨b1, m1, d1, b2, m2, d2, hin 0 (by omega), hin 1 (by omega), hin 2 (by omega), hin 3 (by omega), hin 4 (by omega), hin 5 (by omega), hn⟩
  · have hx' : (mapF f ops i)[t]? = some x := by
      rw [mapF_get (by omega)]
      by_cases e3 : t < i
      · rw [if_pos e3]; rw [if_pos (by omega)] at hx; exact hx
      · rw [if_neg e3]; rw [if_neg (by omega)] at hx; exact hx
    obtain ⟨x1, x2, x3, x4, x5, x6, y0, y1, y2, y3, y4, y5, y6⟩ := h t x hx'
    have hout : ∀ k, k < 6 → (set6 cs (i * 6) (opF g' b1 m1 d1 b2 m2 d2))[t * 6 + k]? = cs[t * 6 + k]? := fun k hk => set6_out _ _ _ _ (by omega)
    exact ⟨x1, x2, x3, x4, x5, x6, (hout 0 (by omega)).trans y0, (hout 1 (by omega)).trans y1, (hout 2 (by omega)).trans y2, (hout 3 (by omega)).trans y3, (hout 4 (by omega)).trans y4, (hout 5 (by omega)).trans y5, hk t x _ _ _ _ _ _ e ht y2 y5 y6⟩
theorem sepF_set {cs : Array Value} {n i : Nat} {g' : Gop} {b1 : Option Addr} {m1 d1 : Nat} {b2 : Option Addr} {m2 d2 : Nat} (hi : i < n) (hsz : n * 6 ≤ cs.size) (h : SepF (n * 6) (fun p => cs[p]?))
    (h2 : ∀ k p u, (Value.slice b1 m1 d1).ownBlock = some k → p < n * 6 → p / 6 ≠ i → cs[p]? = some u → u.ownBlock ≠ some k)
    (h5 : ∀ k p u, (Value.slice b2 m2 d2).ownBlock = some k → p < n * 6 → p / 6 ≠ i → cs[p]? = some u → u.ownBlock ≠ some k)
    (h25 : ∀ k, (Value.slice b1 m1 d1).ownBlock = some k → (Value.slice b2 m2 d2).ownBlock ≠ some k) :
    SepF (n * 6) (fun p => (set6 cs (i * 6) (opF g' b1 m1 d1 b2 m2 d2))[p]?) := by
  have key : ∀ (p : Nat) (u : Value) (k : Nat), p < n * 6 → (set6 cs (i * 6) (opF g' b1 m1 d1 b2 m2 d2))[p]? = some u → u.ownBlock = some k → (p / 6 ≠ i ∧ cs[p]? = some u) ∨ (p = i * 6 + 2 ∧ (Value.slice b1 m1 d1).ownBlock = some k) ∨ (p = i * 6 + 5 ∧ (Value.slice b2 m2 d2).ownBlock = some k) := by
    intro p u k hp hu hk
    by_cases e : p / 6 = i
    · right
      obtain ⟨r, hr, rfl⟩ : ∃ r, r < 6 ∧ p = i * 6 + r := ⟨p % 6, by omega, by omega⟩
      rw [set6_in cs (i * 6) _ r hr (by omega)] at hu
      injection hu with hu
      subst hu
      rcases (show r = 0 ∨ r = 1 ∨ r = 2 ∨ r = 3 ∨ r = 4 ∨ r = 5 by omega) with rfl | rfl | rfl | rfl | rfl | rfl
      · simp [opF, Value.ownBlock] at hk
      · simp [opF, Value.ownBlock] at hk
      · exact Or.inl ⟨rfl, hk⟩
      · simp [opF, Value.ownBlock] at hk
      · simp [opF, Value.ownBlock] at hk
      · exact Or.inr ⟨rfl, hk⟩
    · left
      rw [set6_out _ _ _ _ (by omega)] at hu
      exact ⟨e, hu⟩
  intro p q k u v hp hq eu ev ku kv
  rcases key p u k hp eu ku with ⟨a1, a2⟩ | ⟨a1, a2⟩ | ⟨a1, a2⟩ <;> rcases key q v k hq ev kv with ⟨c1, c2⟩ | ⟨c1, c2⟩ | ⟨c1, c2⟩
  · exact h p q k u v hp hq a2 c2 ku kv
  · exact absurd ku (h2 k p u c2 hp a1 a2)
  · exact absurd ku (h5 k p u c2 hp a1 a2)
  · exact absurd kv (h2 k q v a2 hq c1 c2)
  · omega
  · exact absurd c2 (h25 k a2)
  · exact absurd kv (h5 k q v a2 hq c1 c2)
  · exact absurd a2 (h25 k c2)
  · omega

/-- Does an operation use qubit q already? -/
def uses (o : Gop) (q : Int) : Prop := ¬ o.kind = 1 ∧ (o.q = q ∨ q ∈ o.ctl)
instance usesDec (o : Gop) (q : Int) : Decidable (uses o q) := by unfold uses; exact inferInstance

set_option maxHeartbeats 4000000 in
set_option maxRecDepth 100000 in
theorem usesQubit_any (o : Gop) (a1 : Option Addr) (n1 c1 : Nat) (a2 : Option Addr) (n2 c2 : Nat) (q : Int) (w : World) (h : IntsAt w a1 n1 o.ctl) (hnc : n1 ≤ c1) (hc : c1 ≤ 9223372036854775807) (h1 : 1 ≤ o.kind) (h6 : o.kind ≤ 6) (hph : o.kind = 1 → o.ctl = []) (hS : Shp w) :
    Calls Tryz.prog 47 #[.agg #[.int .i64 o.kind, .int .i64 o.k, .slice a1 n1 c1, .int .i64 o.q, .int .i64 o.bit, .slice a2 n2 c2], .int .i64 q] w fun e w' => e = .returned (.bool (decide (uses o q))) ∧ Ext w w' := by
  obtain ⟨kd, k, ctl, qq, bb, cnd⟩ := o
  simp only at h h1 h6 hph ⊢
  obtain ⟨kn, rfl⟩ : ∃ m : Nat, kd = (m : Int) := ⟨kd.toNat, by omega⟩
  have E0 := ext_al w (.cells #[.int .i64 (kn : Int), .int .i64 k, .slice a1 n1 c1, .int .i64 qq, .int .i64 bb, .slice a2 n2 c2] 60)
  have bx := opbx_new w (kn : Int) k a1 n1 c1 qq bb a2 n2 c2
  have e0 := bx.x0; have e2 := bx.x2; have e3 := bx.x3
  have s2 := cell_ext (hS kn (by omega) (by omega)).2.2.1 E0
  have HC := Lib.hid (Contains_any a1 n1 c1 ctl q _ (h.ext E0) hnc hc)
  have HE := Lib.hid E0
  have i0 : (0 : Int) ≤ (kn : Int) := by omega
  have i1 : (kn : Int) < 7 := by omega
  have huq : usesQ (kn : Int) = !((kn : Int) == 1) := rfl
  obtain ⟨r, hr⟩ : ∃ r, decide (uses ⟨(kn : Int), k, ctl, qq, bb, cnd⟩ q) = r := ⟨_, rfl⟩
  rw [hr]
  unfold uses at hr
  simp only at hr
  clear h hS bx E0 h1 h6
  by_cases hk : (kn : Int) = 1
  · have hct := hph hk
    have hr0 : r = false := by rw [← hr]; exact df (fun hh => hh.1 hk)
    have hm : decide (q ∈ ctl) = false := by rw [hct]; rfl
    rw [huq, eq_t hk] at s2
    simp only [Bool.not_true] at s2
    rw [hm] at HC
    have Hr := Lib.hid hr0
    clear hr hr0 hm hct hph huq hk
    go_enter Tryz.func47, Tryz.ntmps47
    go_wp2_with fail
    refine HC.out.mono ?_
    rintro e w1 ⟨rfl, he1⟩
    have HE1 := Lib.hid (show Ext w w1 by rw [he1]; exact HE.out)
    clear he1
    go_wp2_with fail
    go_ret
    exact ⟨congrArg (fun b => Ending.returned (Value.bool b)) Hr.out.symm, HE1.out⟩
  · rw [huq, bf' hk] at s2
    simp only [Bool.not_false] at s2
    by_cases hq : qq = q
    · have hr0 : r = true := by rw [← hr]; exact dt ⟨hk, Or.inl hq⟩
      have b2 : (qq == q) = true := eq_t hq
      have Hr := Lib.hid hr0
      clear hr hr0 hph huq hk hq
      go_enter Tryz.func47, Tryz.ntmps47
      go_wp2_with fail
      go_ret
      exact ⟨congrArg (fun b => Ending.returned (Value.bool b)) Hr.out.symm, HE.out⟩
    · have b2 : (qq == q) = false := bf' hq
      have hr0 : r = decide (q ∈ ctl) := by rw [← hr]; exact decide_eq_decide.2 ⟨fun hh => hh.2.elim (fun e => absurd e hq) id, fun hh => ⟨hk, Or.inr hh⟩⟩
      have Hr := Lib.hid hr0
      clear hr hr0 hph huq hk hq
      go_enter Tryz.func47, Tryz.ntmps47
      go_wp2_with fail
      refine HC.out.mono ?_
      rintro e w1 ⟨rfl, he1⟩
      have HE1 := Lib.hid (show Ext w w1 by rw [he1]; exact HE.out)
      clear he1
      go_wp2_with fail
      go_ret
      exact ⟨congrArg (fun b => Ending.returned (Value.bool b)) Hr.out.symm, HE1.out⟩

set_option maxHeartbeats 4000000 in
set_option maxRecDepth 100000 in
theorem control_any (o : Gop) (a1 : Option Addr) (n1 c1 : Nat) (a2 : Option Addr) (n2 c2 base : Nat) (q : Int) (w : World) (h : Iow w base a1 n1 c1 o.ctl) (hn : n1 ≤ 1000) :
    Calls Tryz.prog 48 #[.agg #[.int .i64 o.kind, .int .i64 o.k, .slice a1 n1 c1, .int .i64 o.q, .int .i64 o.bit, .slice a2 n2 c2], .int .i64 q] w fun e w' =>
      ((o.kind = 1 ∧ e = .returned (.agg #[.int .i64 4, .int .i64 o.k, .slice none 0 0, .int .i64 q, .int .i64 0, .slice none 0 0])) ∨ (¬ o.kind = 1 ∧ ∃ (a7 : Option Addr) (m7 c7 : Nat), e = .returned (.agg #[.int .i64 o.kind, .int .i64 o.k, .slice a7 m7 c7, .int .i64 o.q, .int .i64 o.bit, .slice a2 n2 c2]) ∧ Iow w' w.heap.size a7 m7 c7 (q :: o.ctl))) ∧ Ext w w' := by
  obtain ⟨j0, hj, hy0, hy1, hy2⟩ := info_parts i_info
  obtain ⟨kd, k, ctl, qq, bb, cnd⟩ := o
  simp only at h ⊢
  obtain ⟨H, hH⟩ : ∃ H, w.heap.size = H := ⟨_, rfl⟩
  obtain ⟨A1, hA1⟩ : ∃ A1, w.alloc (.cells #[.int .i64 kd, .int .i64 k, .slice a1 n1 c1, .int .i64 qq, .int .i64 bb, .slice a2 n2 c2] 60) = A1 := ⟨_, rfl⟩
  obtain ⟨A2, hA2⟩ : ∃ A2, A1.alloc (.cells #[.int .i64 0, .int .i64 0, .slice none 0 0, .int .i64 0, .int .i64 0, .slice none 0 0] 60) = A2 := ⟨_, rfl⟩
  have s1 : A1.heap.size = H + 1 := by rw [← hA1, ← hH]; simp
  have s2 : A2.heap.size = H + 2 := by rw [← hA2]; simp; omega
  have x1 : Ext w A1 := by rw [← hA1]; exact ext_al _ _
  have x2 : Ext A1 A2 := by rw [← hA2]; exact ext_al _ _
  have bx : OpBx A2 H kd k a1 n1 c1 qq bb a2 n2 c2 := by
    have : OpBx A1 H kd k a1 n1 c1 qq bb a2 n2 c2 := by rw [← hA1, ← hH]; exact opbx_new w kd k a1 n1 c1 qq bb a2 n2 c2
    exact this.ext x2
  have br : OpBx A2 (H + 1) 0 0 none 0 0 0 0 none 0 0 := by rw [← hA2, ← s1]; exact opbx_new A1 0 0 none 0 0 0 0 none 0 0
  have hA : (w.alloc (.cells #[.int .i64 kd, .int .i64 k, .slice a1 n1 c1, .int .i64 qq, .int .i64 bb, .slice a2 n2 c2] 60)).alloc (.cells #[.int .i64 0, .int .i64 0, .slice none 0 0, .int .i64 0, .int .i64 0, .slice none 0 0] 60) = A2 := by rw [hA1, hA2]
  have E0 := x1.trans x2
  have HA := Lib.hid hA; have HE0 := Lib.hid E0; have Hbx := Lib.hid bx; have Hbr := Lib.hid br; have HI := Lib.hid (h.ext E0); have Hs2 := Lib.hid s2; have HhH := Lib.hid hH
  clear h hA1 hA2 s1 s2 x1 x2 bx br hA E0
  by_cases hk : kd = 1
  · have b1 : (kd == 1) = true := eq_t hk
    have HT := Lib.hid hk
    have m0 := Hbx.out.x0; have m1 := Hbx.out.x1
    have r0 := Hbr.out.x0; have r1 := Hbr.out.x1; have r2 := Hbr.out.x2; have r3 := Hbr.out.x3; have r4 := Hbr.out.x4; have r5 := Hbr.out.x5
    have g0 := Hbr.out.f 0; have g1 := Hbr.out.f 1; have g2 := Hbr.out.f 2; have g3 := Hbr.out.f 3; have g4 := Hbr.out.f 4; have g5 := Hbr.out.f 5
    have bz := Hbr.out.store 4 k none 0 0 q 0 none 0 0
    have hO := onl6 A2 (H + 1) (.int .i64 4) (.int .i64 k) (.slice none 0 0) (.int .i64 q) (.int .i64 0) (.slice none 0 0)
    have HEz := Lib.hid (ext_only HE0.out hO (by omega))
    have Hbz := Lib.hid bz
    clear hk hO bz
    go_enter Tryz.func48, Tryz.ntmps48
    go_upto_region 1 with fail
    rw [HA.out]
    go_wp2_with fail
    generalize (((((A2.setCell ⟨H + 1, 0, none⟩ (.int .i64 4)).setCell ⟨H + 1, 1, none⟩ (.int .i64 k)).setCell ⟨H + 1, 2, none⟩ (.slice none 0 0)).setCell ⟨H + 1, 3, none⟩ (.int .i64 q)).setCell ⟨H + 1, 4, none⟩ (.int .i64 0)).setCell ⟨H + 1, 5, none⟩ (.slice none 0 0) = Wz at *
    have z0 := Hbz.out.x0; have z1 := Hbz.out.x1; have z2 := Hbz.out.x2; have z3 := Hbz.out.x3; have z4 := Hbz.out.x4; have z5 := Hbz.out.x5
    exact bodyPost_ret (v := .agg #[.int .i64 4, .int .i64 k, .slice none 0 0, .int .i64 q, .int .i64 0, .slice none 0 0]) (by simp [results, Tryz.results48, go_sem, z0, z1, z2, z3, z4, z5]) rfl ⟨Or.inl ⟨HT.out, rfl⟩, HEz.out⟩
  · have b1 : (kd == 1) = false := bf' hk
    have HT := Lib.hid hk
    have m0 := Hbx.out.x0
    have Eq := ext_al A2 (.cells #[.int .i64 q] 3)
    have e2 := (Hbx.out.ext Eq).x2
    have Hown1 := Lib.hid (World.ownsRow_lit (base := A2.heap.size) (e := 3) (size := 1) A2 #[.int .i64 q] 1 (Nat.le_refl _) (by unfold maxLen; omega) rfl)
    have Hi1 := Lib.hid (HI.out.ext Eq)
    have key : ∀ (v7 : Value) (w7 : World), w7.ownsRow A2.heap.size 3 1 v7 (1 + n1) (iC (q :: ctl)) → (A2.alloc (.cells #[.int .i64 q] 3)).grownBy w7 (some A2.heap.size) → ∃ a7 c7, v7 = .slice a7 (1 + n1) c7 ∧ Iow w7 A2.heap.size a7 (1 + n1) c7 (q :: ctl) ∧ Ext A2 w7 := fun v7 w7 h1 h2 => by
      obtain ⟨a7, c7, e, h3⟩ := io_of_own h1
      exact ⟨a7, c7, e, h3, grown_ext (ext_al A2 _) h2 (fun k hk => by cases hk; exact Nat.le_refl _)⟩
    have HKey := Lib.hid key
    have fin : ∀ (w7 : World) (a7 : Option Addr) (m7 c7 : Nat), Iow w7 A2.heap.size a7 m7 c7 (q :: ctl) → Ext A2 w7 → ∃ Wz, ((((((w7.setCell ⟨H, 2, none⟩ (.slice a7 m7 c7)).setCell ⟨H + 1, 0, none⟩ (.int .i64 kd)).setCell ⟨H + 1, 1, none⟩ (.int .i64 k)).setCell ⟨H + 1, 2, none⟩ (.slice a7 m7 c7)).setCell ⟨H + 1, 3, none⟩ (.int .i64 qq)).setCell ⟨H + 1, 4, none⟩ (.int .i64 bb)).setCell ⟨H + 1, 5, none⟩ (.slice a2 n2 c2) = Wz ∧ OpBx Wz (H + 1) kd k a7 m7 c7 qq bb a2 n2 c2 ∧ Iow Wz H a7 m7 c7 (q :: ctl) ∧ Ext w Wz := fun w7 a7 m7 c7 hI hE => by
      have b7 := Hbx.out.ext hE; have r7 := Hbr.out.ext hE
      have hO1 := only1 w7 H 2 (.slice a7 m7 c7)
      have r8 : OpBx (w7.setCell ⟨H, 2, none⟩ (.slice a7 m7 c7)) (H + 1) 0 0 none 0 0 0 0 none 0 0 := ⟨(hO1.block _ (by omega)).trans r7.row⟩
      have hO2 := onl6 (w7.setCell ⟨H, 2, none⟩ (.slice a7 m7 c7)) (H + 1) (.int .i64 kd) (.int .i64 k) (.slice a7 m7 c7) (.int .i64 qq) (.int .i64 bb) (.slice a2 n2 c2)
      exact ⟨_, rfl, r8.store kd k a7 m7 c7 qq bb a2 n2 c2, ((hI.keep (only_ints b7.row (by decide) hO1)).keep (only_ints r8.row (by decide) hO2)).down (by have := Hs2.out; omega), ext_only (ext_only (HE0.out.trans hE) hO1 (by omega)) hO2 (by omega)⟩
    have HFin := Lib.hid fin
    clear hk key fin Eq
    go_enter Tryz.func48, Tryz.ntmps48
    go_upto_region 1 with fail
    rw [HA.out]
    cases a1 with
    | none =>
      have hm0 : n1 = 0 ∧ c1 = 0 := by
        rcases Hi1.out.2 with ⟨e, h0⟩ | ⟨g, cap, cur, e, _⟩
        · injection e with _ _ e3; exact ⟨h0, e3⟩
        · injection e with e1; cases e1
      obtain ⟨rfl, rfl⟩ := hm0
      have hct : ctl = [] := List.length_eq_zero_iff.1 (by have := Hi1.out.1; simpa [iC] using this)
      subst hct
      obtain ⟨a7, c7, ha7, hI7, hE7⟩ := HKey.out (.slice (some ⟨A2.heap.size, 0, none⟩) 1 1) (A2.alloc (.cells #[.int .i64 q] 3)) Hown1.out ⟨rfl, rfl, rfl, Nat.le_refl _, fun _ _ _ => rfl⟩
      injection ha7 with ea en ec
      clear en
      subst ea; subst ec
      obtain ⟨Wz, hWz, hbz, hIz, hEz⟩ := HFin.out _ _ 1 1 hI7 hE7
      have HWz := Lib.hid hWz; have Hbz := Lib.hid hbz; have HIz := Lib.hid hIz; have HEz := Lib.hid hEz
      have b7 := Hbx.out.ext hE7; have r7 := Hbr.out.ext hE7
      have m0' := b7.x0; have m1 := b7.x1; have m3 := b7.x3; have m4 := b7.x4; have m5 := b7.x5; have f2 := b7.f 2
      have r0 := r7.x0; have r1 := r7.x1; have r2 := r7.x2; have r3 := r7.x3; have r4 := r7.x4; have r5 := r7.x5
      have g0 := r7.f 0; have g1 := r7.f 1; have g2 := r7.f 2; have g3 := r7.f 3; have g4 := r7.f 4; have g5 := r7.f 5
      clear hI7 hE7 hWz hbz hIz hEz b7 r7
      go_wp2_with (at_builtin; refine wpList_append_own_none rfl _ _ 25 rfl A2.heap.size 3 j0 1 Tryz.underlying25 hj _ _ _ rfl Hown1.out rfl ?_)
      rw [HWz.out]
      have z0 := Hbz.out.x0; have z1 := Hbz.out.x1; have z2 := Hbz.out.x2; have z3 := Hbz.out.x3; have z4 := Hbz.out.x4; have z5 := Hbz.out.x5
      exact bodyPost_ret (v := .agg #[.int .i64 kd, .int .i64 k, .slice (some ⟨A2.heap.size, 0, none⟩) 1 1, .int .i64 qq, .int .i64 bb, .slice a2 n2 c2]) (by simp [results, Tryz.results48, go_sem, z0, z1, z2, z3, z4, z5]) rfl ⟨Or.inr ⟨HT.out, _, _, _, rfl, HIz.out⟩, HEz.out⟩
    | some ad =>
      obtain ⟨g1, rfl⟩ : ∃ g1, ad = ⟨g1, 0, none⟩ := by
        rcases Hi1.out.2 with ⟨e, h0⟩ | ⟨g, cap, cur, e, _⟩
        · injection e with e1; cases e1
        · injection e with e1; cases e1; exact ⟨g, rfl⟩
      have Hlen := Lib.hid (show (iC ctl).length = n1 * 1 from Hi1.out.1); have Hcls := Lib.hid (World.ownsRow.cells Hi1.out (g := g1) rfl); have Hio := Lib.hid (iC_one ctl)
      go_upto_region 4 with (at_builtin; refine wpList_append_own _ rfl _ _ 25 rfl A2.heap.size 3 j0 (.int .i64 0) 1 8 Tryz.underlying25 hj hy0 hy1 hy2 rfl (by decide) _ _ _ rfl Hown1.out ⟨g1, 0, none⟩ n1 c1 (iC ctl) rfl Hlen.out Hcls.out Hio.out (by unfold maxLen; omega) (by omega) (ext_al A2 _).size ?_; intro v7 w7 hown7 hgr7 _; obtain ⟨a7, c7, rfl, hI7, hE7⟩ := HKey.out _ _ hown7 hgr7; have hb7 := Hbx.out.ext hE7; have e2' := hb7.x2; have f2 := hb7.f 2)
      obtain ⟨Wz, hWz, hbz, hIz, hEz⟩ := HFin.out _ _ (1 + n1) c7 hI7 hE7
      have HWz := Lib.hid hWz; have Hbz := Lib.hid hbz; have HIz := Lib.hid hIz; have HEz := Lib.hid hEz
      have b8 := hb7.set2 a7 (1 + n1) c7
      have m0' := b8.x0; have m1 := b8.x1; have m2 := b8.x2; have m3 := b8.x3; have m4 := b8.x4; have m5 := b8.x5
      have r8 : OpBx (w7.setCell ⟨H, 2, none⟩ (.slice a7 (1 + n1) c7)) (H + 1) 0 0 none 0 0 0 0 none 0 0 := ⟨((only1 w7 H 2 (.slice a7 (1 + n1) c7)).block _ (by omega)).trans (Hbr.out.ext hE7).row⟩
      have r0 := r8.x0; have r1 := r8.x1; have r2 := r8.x2; have r3 := r8.x3; have r4 := r8.x4; have r5 := r8.x5
      have g0 := r8.f 0; have g1 := r8.f 1; have g2 := r8.f 2; have g3 := r8.f 3; have g4 := r8.f 4; have g5 := r8.f 5
      clear hI7 hE7 hWz hbz hIz hEz b8 r8 hb7 hown7 hgr7 e2' e2 m0 f2
      generalize w7.setCell ⟨H, 2, none⟩ (.slice a7 (1 + n1) c7) = V at *
      go_wp2_with fail
      rw [HWz.out]
      have z0 := Hbz.out.x0; have z1 := Hbz.out.x1; have z2 := Hbz.out.x2; have z3 := Hbz.out.x3; have z4 := Hbz.out.x4; have z5 := Hbz.out.x5
      exact bodyPost_ret (v := .agg #[.int .i64 kd, .int .i64 k, .slice a7 (1 + n1) c7, .int .i64 qq, .int .i64 bb, .slice a2 n2 c2]) (by simp [results, Tryz.results48, go_sem, z0, z1, z2, z3, z4, z5]) rfl ⟨Or.inr ⟨HT.out, _, _, _, rfl, HIz.out⟩, HEz.out⟩

end Go.Proofs.YtfjnlopbmkimiaaGreatDoor
