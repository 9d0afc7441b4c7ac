/-
  Ways home lead home: step by step. The program: slices.Clone of Paulis; wayHome. The program: wayHome. A code without a fault: its generators can go home. What undoes a way home is pure. The program: Encoder.
-/
import Derived.Test.YtbmjobpobjfjeaaDoorProg
import Derived.Test.YtbmjobpobjfjeaaDoorRows
import Derived.BigQuiet
import Derived.Deep.AppendLies
import Derived.Deep.Cut
import Derived.Deep.CutRange
import Derived.Deep.LoopGhost
import Derived.Deep.QuietTactic
import Derived.Deep.RegionHeld3
import Derived.DeepKeys4
import Derived.Defers
import Derived.Laws.AppendOwnNone
import Derived.Laws.Bits64b
import Derived.Laws.Concat
import Derived.Laws.CopyOwn
import Derived.Laws.IdiomStrings
import Derived.Laws.ResultCell
import Derived.Lib.AppendStr
import Derived.Lib.AppendZeros
import Derived.Lib.AppendZerosOnto
import Derived.Lib.BitFns
import Derived.Lib.Hide
import Derived.Lib.ItoaMem
import Derived.Lib.ItoaNum
import Derived.Lib.SliceRun
import Derived.Lib.Strings
import Derived.LoopIn
import Derived.LoopNIn
import Derived.Maps.AppendAt
import Derived.Maps.OwnSet
import Derived.OwnWalk
import Derived.OwnWalkIn
import Derived.RangeFuncBound
import Derived.RangeFuncBox
import Derived.RangeFuncCalls
import Derived.RangeFuncGives
import Derived.RangeFuncLeaves
import Derived.RangeFuncNested
import Derived.RangeFuncStops
import Derived.Recover
import Derived.Shelf.Abstract
import Derived.Shelf.Bits.Mul64
import Derived.Shelf.RegionOpen
import Derived.Shelf.Small.Bits
import Derived.Shelf.Small.Strs
import Derived.Shelf.Strings.Search1
import Derived.Sort.MapsRangeIn
import Derived.TacticsInMore
import Derived.WalkKit
import Derived.WalkLawsBesides
import Derived.WalkSpells
import Derived.Test.YtbmjobpobjfjeaaDoorS00Ca
import Derived.Test.YtbmjobpobjfjeaaDoorShelf
import Derived.Test.YtbmjobpobjfjeaaDoorS02Cn
import Derived.Test.YtbmjobpobjfjeaaDoorS03Ib
import Derived.Test.YtbmjobpobjfjeaaDoorS04Ij
import Derived.Test.YtbmjobpobjfjeaaDoorS05Ir
import Derived.Test.YtbmjobpobjfjeaaDoorS06Is
import Derived.Test.YtbmjobpobjfjeaaDoorS07It
import Derived.Test.YtbmjobpobjfjeaaDoorS08Ix
import Derived.Test.YtbmjobpobjfjeaaDoorS09Aa
import Derived.Test.YtbmjobpobjfjeaaDoorS10Dd
import Derived.Test.YtbmjobpobjfjeaaDoorS11Bl
import Derived.Test.YtbmjobpobjfjeaaDoorS12Kg
import Derived.Test.YtbmjobpobjfjeaaDoorS13Bn
import Derived.Test.YtbmjobpobjfjeaaDoorS14Bu
namespace Go.Proofs.YtbmjobpobjfjeaaDoor
open Go.RowKit

theorem tz_x : ∀ (k q : Nat) (p : QP), (∀ j, j < q → p.x.testBit j = false) → ∀ j, j < q + k → (actL (tzL k q p) p).x.testBit j = false
  | 0, _, _, h, j, hj => h j (by omega)
  | k + 1, q, p, h, j, hj => by
    unfold tzL
    split
    · rename_i hx
      exact tz_x k (q + 1) p (fun i hi => by
        by_cases e : i = q
        · rw [e]; exact hx
        · exact h i (by omega)) j (by omega)
    · rename_i hx
      split
      · rename_i hz
        rw [actL_cons, actL_cons]
        refine tz_x k (q + 1) _ (fun i hi => ?_) j (by omega)
        rw [act_h, act_p]
        show (forkG q (quarG q p)).x.testBit i = false
        rw [fork_x]
        split
        · rename_i e
          subst e
          rw [quar_z, hz]
          have : p.x.testBit q = true := by simpa using hx
          rw [this]
          simp
        · exact h i (by omega)
      · rename_i hz
        rw [actL_cons]
        refine tz_x k (q + 1) _ (fun i hi => ?_) j (by omega)
        rw [act_h, fork_x]
        split
        · rename_i e
          subst e
          simpa using hz
        · exact h i (by omega)
theorem tz_keep {j : Nat} : ∀ (k q : Nat) (p : QP), j < q → actL (tzL k q p) (zQ j) = zQ j
  | 0, _, _, _ => rfl
  | k + 1, q, p, h => by
    unfold tzL
    split
    · exact tz_keep k (q + 1) p (by omega)
    · split
      · rw [actL_cons, actL_cons, act_p, act_h]
        show actL _ (forkG q (quarG q (zQ j))) = _
        rw [quar_zQ, fork_zQ (by omega)]
        exact tz_keep k (q + 1) _ (by omega)
      · rw [actL_cons, act_h, fork_zQ (by omega)]
        exact tz_keep k (q + 1) _ (by omega)
/-- Where letters are Zs alone, an X with a control turns no sign. -/
theorem on_x0 {q c : Nat} {p : QP} (h : p.x = 0) : (onG q c p).x = 0 ∧ (onG q c p).z = (if p.z.testBit q then p.z ^^^ 2 ^ c else p.z) := by
  refine ⟨?_, rfl⟩
  show (if p.x.testBit c then p.x ^^^ 2 ^ q else p.x) = 0
  rw [h, Nat.zero_testBit]
  rfl
theorem gaL_z {i : Nat} : ∀ (k q : Nat) (p : QP), p.x = 0 → p.z.testBit i = true → (∀ j, j < q → j ≠ i → p.z.testBit j = false) →
    (actL (gaL i k q p) p).x = 0 ∧ (actL (gaL i k q p) p).z.testBit i = true ∧ ∀ j, j < q + k → j ≠ i → (actL (gaL i k q p) p).z.testBit j = false
  | 0, _, _, h1, h2, h3 => ⟨h1, h2, fun j hj hne => h3 j (by omega) hne⟩
  | k + 1, q, p, h1, h2, h3 => by
    unfold gaL
    split
    · rename_i hq
      rw [actL_cons, act_cx]
      have hz : (onG i q p).z = p.z ^^^ 2 ^ q := by rw [(on_x0 h1).2, if_pos h2]
      have := gaL_z k (q + 1) (onG i q p) (on_x0 h1).1 (by rw [hz, Nat.testBit_xor, bit_pow, h2, decide_eq_false hq.1]; rfl) (fun j hj hne => by
        rw [hz, Nat.testBit_xor, bit_pow]
        by_cases e : q = j
        · subst e; rw [hq.2, decide_eq_true rfl]; rfl
        · rw [decide_eq_false e, h3 j (by omega) hne]; rfl)
      exact ⟨this.1, this.2.1, fun j hj => this.2.2 j (by omega)⟩
    · rename_i hq
      have := gaL_z k (q + 1) p h1 h2 (fun j hj hne => by
        by_cases e : j = q
        · subst e
          cases hb : p.z.testBit j with
          | false => rfl
          | true => exact absurd ⟨hne, hb⟩ hq
        · exact h3 j (by omega) hne)
      exact ⟨this.1, this.2.1, fun j hj => this.2.2 j (by omega)⟩
theorem gaL_keep {i j : Nat} (h : j < i) : ∀ (k q : Nat) (p : QP), actL (gaL i k q p) (zQ j) = zQ j
  | 0, _, _ => rfl
  | k + 1, q, p => by
    unfold gaL
    split
    · rw [actL_cons, act_cx, on_zQ (by omega)]
      exact gaL_keep h k (q + 1) _
    · exact gaL_keep h k (q + 1) p
/-- What gather wants of a Pauli of Zs. -/
def GoodZ (n i : Nat) (p : QP) : Prop := p.z.testBit i = false → i < Lib.bitLen p.z - 1 ∧ Lib.bitLen p.z - 1 < n
theorem top_bit {z : Nat} (h0 : z ≠ 0) (h : z < 65536) : z.testBit (Lib.bitLen z - 1) = true ∧ 2 ^ (Lib.bitLen z - 1) ≤ z := by
  obtain ⟨h1, h2, h3⟩ := Lib.bitLenAux_bounds 64 z (Nat.lt_of_lt_of_le h (by decide)) h0
  have h2' : 2 ^ (Lib.bitLen z - 1) ≤ z := h2
  have h3' : z < 2 ^ Lib.bitLen z := h3
  have h1' : 1 ≤ Lib.bitLen z := h1
  obtain ⟨m, hm⟩ : ∃ m, Lib.bitLen z = m + 1 := ⟨Lib.bitLen z - 1, by omega⟩
  rw [hm] at h2' h3' ⊢
  simp only [Nat.add_sub_cancel] at h2' ⊢
  refine ⟨?_, h2'⟩
  cases hb : z.testBit m with
  | true => rfl
  | false => exact absurd (no_bit h3' hb) (by omega)
theorem good_of {n i : Nat} {p : QP} (hn : n ≤ 16) (hz : 2 ^ i ≤ p.z) (hzn : p.z < 2 ^ n) : GoodZ n i p := fun hb => by
  have h0 : p.z ≠ 0 := by have := Nat.two_pow_pos i; omega
  obtain ⟨t1, t2⟩ := top_bit h0 (Nat.lt_of_lt_of_le hzn (Nat.pow_le_pow_right (by decide) hn))
  constructor
  · have h1 : ¬ Lib.bitLen p.z - 1 = i := fun e => by rw [e, hb] at t1; cases t1
    have h2 : ¬ Lib.bitLen p.z - 1 < i := fun e => by
      -- all bits from the top on are noughts
      have h3 : p.z < 2 ^ Lib.bitLen p.z := (Lib.bitLenAux_bounds 64 p.z (Nat.lt_of_lt_of_le (Nat.lt_of_lt_of_le hzn (Nat.pow_le_pow_right (by decide) hn)) (by decide)) h0).2.2
      have h4 : 2 ^ Lib.bitLen p.z ≤ 2 ^ i := Nat.pow_le_pow_right (by decide) (by omega)
      omega
    omega
  · refine Nat.lt_of_not_le fun e => ?_
    have := Nat.pow_le_pow_right (show 0 < 2 by decide) e
    omega
/-- One step: generator i goes home, those that are home stay. -/
theorem one_home {n i : Nat} (hn : n ≤ 16) (hi : i < n) {p : QP} (hx : ∀ j, j < i → p.x.testBit j = false) (hf : p.x < 2 ^ n ∧ p.z < 2 ^ n) (hg : 2 ^ i ≤ (actL (tzL (n - i) i p) p).z) :
    GoodZ n i (actL (tzL (n - i) i p) p) ∧ (∀ o ∈ wayS n i p, WOk n o) ∧ actL (wayS n i p) p = zQ i ∧ ∀ j, j < i → actL (wayS n i p) (zQ j) = zQ j := by
  have hTok := tzL_ok (n := n) (n - i) i p (by omega)
  have hTf := (nice_all hn hTok).fit p hf.1 hf.2
  have hT0 : (actL (tzL (n - i) i p) p).x = 0 := by
    refine Nat.eq_of_testBit_eq fun j => ?_
    rw [Nat.zero_testBit]
    by_cases hj : j < n
    · exact tz_x (n - i) i p hx j (by omega)
    · exact Nat.testBit_lt_two_pow (Nat.lt_of_lt_of_le hTf.1 (Nat.pow_le_pow_right (by decide) (by omega)))
  have hTk := fun j (hj : j < i) => tz_keep (j := j) (n - i) i p hj
  have hgood : GoodZ n i (actL (tzL (n - i) i p) p) := good_of hn hg hTf.2
  unfold wayS
  obtain ⟨T, hT⟩ : ∃ T, tzL (n - i) i p = T := ⟨_, rfl⟩
  rw [hT] at hTok hTf hT0 hTk hgood hg ⊢
  obtain ⟨p1, hp1⟩ : ∃ p1, actL T p = p1 := ⟨_, rfl⟩
  rw [hp1] at hTf hT0 hgood hg ⊢
  -- the Z comes
  have hA : (∀ o ∈ gaA i p1, WOk n o) ∧ (actL (gaA i p1) p1).x = 0 ∧ (actL (gaA i p1) p1).z.testBit i = true ∧ ∀ j, j < i → actL (gaA i p1) (zQ j) = zQ j := by
    unfold gaA
    split
    · rename_i hb
      exact ⟨fun o ho => by simp at ho, hT0, hb, fun _ _ => rfl⟩
    · rename_i hb
      have hb' : p1.z.testBit i = false := by simpa using hb
      obtain ⟨g1, g2⟩ := hgood hb'
      have h0 : p1.z ≠ 0 := by have := Nat.two_pow_pos i; omega
      have ht := (top_bit h0 (Nat.lt_of_lt_of_le hTf.2 (Nat.pow_le_pow_right (by decide) hn))).1
      refine ⟨fun o ho => by rw [List.mem_singleton.1 ho]; exact .cx g2 hi (by omega), ?_, ?_, fun j hj => ?_⟩
      · rw [actL_cons, actL_nil, act_cx]; exact (on_x0 hT0).1
      · rw [actL_cons, actL_nil, act_cx, (on_x0 hT0).2, if_pos ht, Nat.testBit_xor, hb', bit_pow, decide_eq_true rfl]; rfl
      · rw [actL_cons, actL_nil, act_cx, on_zQ (by omega)]
  obtain ⟨hA1, hA2, hA3, hA4⟩ := hA
  have hAf := (nice_all hn hA1).fit p1 hTf.1 hTf.2
  have hLok := gaL_ok hi n 0 (actL (gaA i p1) p1) (by omega)
  obtain ⟨l1, l2, l3⟩ := gaL_z n 0 (actL (gaA i p1) p1) hA2 hA3 (fun j hj => absurd hj (by omega))
  have hLf := (nice_all hn hLok).fit _ hAf.1 hAf.2
  have hGok : ∀ o ∈ gaS n i p1, WOk n o := fun o ho => by
    unfold gaS at ho
    rcases List.mem_append.1 ho with h | h
    · exact hA1 o h
    · exact hLok o h
  have hG : actL (gaS n i p1) p1 = actL (gaL i n 0 (actL (gaA i p1) p1)) (actL (gaA i p1) p1) := by unfold gaS; rw [actL_append]
  have hGk : ∀ j, j < i → actL (gaS n i p1) (zQ j) = zQ j := fun j hj => by unfold gaS; rw [actL_append, hA4 j hj]; exact gaL_keep hj n 0 _
  rw [← hG] at l1 l2 l3 hLf
  obtain ⟨G, hGe⟩ : ∃ G, gaS n i p1 = G := ⟨_, rfl⟩
  rw [hGe] at hGok hGk l1 l2 l3 hLf ⊢
  obtain ⟨p2, hp2⟩ : ∃ p2, actL G p1 = p2 := ⟨_, rfl⟩
  rw [hp2] at l1 l2 l3 hLf ⊢
  have hz2 : p2.z = 2 ^ i := by
    refine Nat.eq_of_testBit_eq fun j => ?_
    rw [bit_pow]
    by_cases e : i = j
    · subst e; rw [l2, decide_eq_true rfl]
    · rw [decide_eq_false e]
      by_cases hj : j < n
      · exact l3 j (by omega) (Ne.symm e)
      · exact Nat.testBit_lt_two_pow (Nat.lt_of_lt_of_le hLf.2 (Nat.pow_le_pow_right (by decide) (by omega)))
  have hMok : ∀ o ∈ mnS i p2, WOk n o := fun o ho => by
    unfold mnS at ho
    split at ho
    · rw [List.mem_singleton.1 ho]; exact .x hi
    · simp at ho
  have hM : actL (mnS i p2) p2 = zQ i := by
    unfold mnS
    split
    · rename_i hm
      rw [actL_cons, actL_nil, act_x]
      refine QP.ext' l1 hz2 ?_
      show (p2.m ^^ p2.z.testBit i) = false
      rw [hm, l2]; rfl
    · rename_i hm
      exact QP.ext' l1 hz2 (show p2.m = false by simpa using hm)
  have hMk : ∀ j, j < i → actL (mnS i p2) (zQ j) = zQ j := fun j hj => by
    unfold mnS
    split
    · rw [actL_cons, actL_nil, act_x, flip_zQ (by omega)]
    · rfl
  refine ⟨hgood, fun o ho => ?_, ?_, fun j hj => ?_⟩
  · rcases List.mem_append.1 ho with h | h
    · exact hTok o h
    · rcases List.mem_append.1 h with h | h
      · exact hGok o h
      · exact hMok o h
  · rw [actL_append, actL_append, hp1, hp2]; exact hM
  · rw [actL_append, actL_append, hTk j hj, hGk j hj]; exact hMk j hj
/-- Generators that commute, none of which is in the span of those ahead of it. -/
structure GoodL (n : Nat) (l : List QP) : Prop where
  len : l.length ≤ n
  fit : ∀ p ∈ l, p.x < 2 ^ n ∧ p.z < 2 ^ n
  com : ∀ a ∈ l, ∀ b ∈ l, ant a b = false
  ind : ∀ i p, l[i]? = some p → ¬ InS (l.take i) p.x p.z
theorem ant_zQ (p : QP) {j : Nat} (hj : j < 16) : ant p (zQ j) = p.x.testBit j := by
  unfold ant zQ
  simp only [Nat.and_zero, par_zero, Bool.xor_false]
  exact par_bit 16 p.x j hj
/-- The next step. -/
theorem step_home' {n : Nat} (hn : n ≤ 16) {l : List QP} (hG : GoodL n l) {i : Nat} (h1 : ∀ o ∈ wayL n l i, WOk n o) (h2 : ∀ j, j < i → actL (wayL n l i) (l.getD j ⟨0, 0, false⟩) = zQ j) (hi : i < l.length) :
    GoodZ n i (actL (tzL (n - i) i (actL (wayL n l i) (l.getD i ⟨0, 0, false⟩))) (actL (wayL n l i) (l.getD i ⟨0, 0, false⟩))) ∧ (∀ o ∈ wayS n i (actL (wayL n l i) (l.getD i ⟨0, 0, false⟩)), WOk n o) ∧ actL (wayS n i (actL (wayL n l i) (l.getD i ⟨0, 0, false⟩))) (actL (wayL n l i) (l.getD i ⟨0, 0, false⟩)) = zQ i ∧ ∀ j, j < i → actL (wayS n i (actL (wayL n l i) (l.getD i ⟨0, 0, false⟩))) (zQ j) = zQ j := by
  have hN := nice_all hn h1
  have hgi := List.getElem?_eq_getElem hi
  have hgd : l.getD i ⟨0, 0, false⟩ = l[i] := by rw [List.getD_eq_getElem?_getD, hgi]; rfl
  have hmem : l.getD i ⟨0, 0, false⟩ ∈ l := by rw [hgd]; exact List.getElem_mem hi
  have hfit := hG.fit _ hmem
  have hlen := hG.len
  have hx : ∀ j, j < i → (actL (wayL n l i) (l.getD i ⟨0, 0, false⟩)).x.testBit j = false := fun j hj => by
    rw [← ant_zQ _ (show j < 16 by omega), ← h2 j hj, hN.ant]
    refine hG.com _ hmem _ ?_
    rw [List.getD_eq_getElem?_getD, List.getElem?_eq_getElem (show j < l.length by omega)]
    exact List.getElem_mem _
  have hf := hN.fit _ hfit.1 hfit.2
  refine one_home hn (by omega) hx hf (Nat.le_of_not_lt fun hlow => ?_)
  -- else it would be a product of those that are home
  have hTok := tzL_ok (n := n) (n - i) i (actL (wayL n l i) (l.getD i ⟨0, 0, false⟩)) (by omega)
  have hTx := tz_x (n - i) i _ hx
  have hTk := fun j (hj : j < i) => tz_keep (j := j) (n - i) i (actL (wayL n l i) (l.getD i ⟨0, 0, false⟩)) hj
  have hTf := (nice_all hn hTok).fit _ hf.1 hf.2
  generalize hT : tzL (n - i) i (actL (wayL n l i) (l.getD i ⟨0, 0, false⟩)) = T at *
  have hWT : ∀ o ∈ wayL n l i ++ T, WOk n o := fun o ho => (List.mem_append.1 ho).elim (h1 o) (hTok o)
  have hN2 := nice_all hn hWT
  have hx0 : (actL (wayL n l i ++ T) (l.getD i ⟨0, 0, false⟩)).x = 0 := by
    rw [actL_append]
    refine Nat.eq_of_testBit_eq fun j => ?_
    rw [Nat.zero_testBit]
    by_cases hj : j < n
    · exact hTx j (by omega)
    · exact Nat.testBit_lt_two_pow (Nat.lt_of_lt_of_le hTf.1 (Nat.pow_le_pow_right (by decide) (by omega)))
  have hz0 : (actL (wayL n l i ++ T) (l.getD i ⟨0, 0, false⟩)).z < 2 ^ i := by rw [actL_append]; exact hlow
  obtain ⟨x', z', s1, s2, s3⟩ := span_home (l := l) hN2.lin i (by omega) (fun j hj => by rw [actL_append, h2 j hj]; exact hTk j hj) _ hz0
  have hU := (undo_all hWT).2
  have hUn := nice_all hn (undo_all hWT).1
  have hl := lin_let hUn.lin (a := actL (wayL n l i ++ T) (l.getD i ⟨0, 0, false⟩)) (b := actL (wayL n l i ++ T) ⟨x', z', false⟩) (hx0.trans s2.symm) s3.symm
  rw [hU, hU] at hl
  exact hG.ind i _ hgi (by rw [← hgd, hl.1, hl.2]; exact s1)
/-- The first i generators are home behind their way. -/
theorem way_home {n : Nat} (hn : n ≤ 16) {l : List QP} (hG : GoodL n l) : ∀ i, i ≤ l.length → (∀ o ∈ wayL n l i, WOk n o) ∧ ∀ j, j < i → actL (wayL n l i) (l.getD j ⟨0, 0, false⟩) = zQ j
  | 0, _ => ⟨fun o ho => by simp [wayL] at ho, fun j hj => absurd hj (by omega)⟩
  | i + 1, hi => by
    obtain ⟨h1, h2⟩ := way_home hn hG i (by omega)
    have hs := step_home' hn hG h1 h2 (by omega)
    refine ⟨fun o ho => ?_, fun j hj => ?_⟩
    · unfold wayL at ho
      rcases List.mem_append.1 ho with h | h
      · exact h1 o h
      · exact hs.2.1 o h
    · unfold wayL
      rw [actL_append]
      by_cases e : j = i
      · subst e; exact hs.2.2.1
      · rw [h2 j (by omega)]
        exact hs.2.2.2 j (by omega)
end Go.Proofs.YtbmjobpobjfjeaaDoor
namespace Go.Proofs.YtbmjobpobjfjeaaDoor
open Go.RowKit

def toQ (p : PK) : QP := ⟨p.x, p.z, p.m⟩
theorem pcs_div : ∀ (l : List PK) (j : Nat) (u : Value), (pcs l)[j]? = some u → ∃ p, l[j / 3]? = some p ∧ ((j % 3 = 0 ∧ u = .int .u16 (p.x : Int)) ∨ (j % 3 = 1 ∧ u = .int .u16 (p.z : Int)) ∨ (j % 3 = 2 ∧ u = .bool p.m))
  | [], j, u, h => by simp [pcs] at h
  | a :: r, j, u, h => by
    match j, h with
    | 0, h => exact ⟨a, rfl, Or.inl ⟨rfl, (Option.some.inj h).symm⟩⟩
    | 1, h => exact ⟨a, rfl, Or.inr (Or.inl ⟨rfl, (Option.some.inj h).symm⟩)⟩
    | 2, h => exact ⟨a, rfl, Or.inr (Or.inr ⟨rfl, (Option.some.inj h).symm⟩)⟩
    | j + 3, h =>
      obtain ⟨p, h1, h2⟩ := pcs_div r j u h
      rw [show (j + 3) / 3 = j / 3 + 1 by omega, show (j + 3) % 3 = j % 3 by omega]
      exact ⟨p, h1, h2⟩
theorem pcs_one (l : List PK) : ∀ u ∈ pcs l, u.oneCell' = true := fun u hu => by
  obtain ⟨j, hj⟩ := List.mem_iff_getElem?.1 hu
  obtain ⟨p, _, h⟩ := pcs_div l j u hj
  rcases h with ⟨_, rfl⟩ | ⟨_, rfl⟩ | ⟨_, rfl⟩ <;> rfl
/-- What Clone answers. -/
def ClR (l : List PK) (k : Nat) (w : World) (e : Ending) (w' : World) : Prop := ∃ (a' : Option Addr) (c' : Nat), e = .returned (.slice a' k c') ∧ Ext w w' ∧ (k = 0 ∨ ∃ g, a' = some ⟨g, 0, none⟩ ∧ w.heap.size ≤ g ∧ GnB w' g (l.map toQ))
theorem ClR.of {l : List PK} {k : Nat} {w w' : World} {v : Value} (h : w'.ownsRow w.heap.size 66 3 v k (pcs l)) (hl : l.length = k) (hx : Ext w w') : ClR l k w (.returned v) w' := by
  rcases h.2 with ⟨rfl, rfl⟩ | ⟨g, cap, cur, rfl, hb, hg, hnc, hcm, _, htk⟩
  · exact ⟨none, 0, rfl, hx, Or.inl rfl⟩
  · refine ⟨_, _, rfl, hx, Or.inr ⟨g, rfl, hb, ⟨_, hg⟩, fun t p hp => ?_⟩⟩
    rw [List.getElem?_map] at hp
    obtain ⟨p0, hp0, rfl⟩ := Option.map_eq_some_iff.1 hp
    have htl := (List.getElem?_eq_some_iff.1 hp0).1
    obtain ⟨h0, h1, h2⟩ := pcs_at l t p0 hp0
    have at' : ∀ j v, (pcs l)[j]? = some v → j < k * 3 → w'.cell? ⟨g, j, none⟩ = some v := fun j v hj hlt => by
      rw [cell_of_row w' g j cur _ (0, 0) hg, ← Array.getElem?_toList, ← hj, ← htk, List.getElem?_take, if_pos hlt]
    exact ⟨at' _ _ h0 (by omega), at' _ _ h1 (by omega), at' _ _ h2 (by omega)⟩
set_option maxRecDepth 100000 in
set_option maxHeartbeats 4000000 in
theorem clone_p (l : List PK) (ao : Option Addr) (k c : Nat) (w : World) (h : PsAt w ao k l) (hk : k ≤ 16) :
    Calls Tryd.prog 35 #[.slice ao k c] w fun e w' => ClR l k w e w' := by
  obtain ⟨i0, hi0, hz0, hz1, hz2⟩ := info_parts P_info
  have q22 : ∀ (w : World) (a : Option Addr) (n c n' c' : Nat), (binOp .eql 40 (.slice a n c) (.slice none n' c')).run Tryd.prog w = .ok (.bool a.isNone) w := fun w a n c n' c' => Lib.run_eql_slice_nil w _ _ a n c n' c' Tryd.underlying40
  cases ao with
  | none =>
    have hk0 : k = 0 := by
      rcases h.2 with h0 | ⟨b, o, e, _⟩
      · exact h0
      · cases e
    subst hk0
    clear h
    go_enter Tryd.func35, Tryd.ntmps35
    go_wp2_with fail
    go_ret
    exact ⟨none, 0, rfl, Ext.refl _, Or.inl rfl⟩
  | some ad =>
    have hnews : ∀ (w0 : World), Ext w w0 → ∀ j u, (pcs l)[j]? = some u → w0.cell? (ad.add j) = some u := fun w0 hx j u hj => by
      obtain ⟨p, hp, hu⟩ := pcs_div l j u hj
      have hl := h.1
      have hpl := (List.getElem?_eq_some_iff.1 hp).1
      rcases h.2 with h0 | ⟨b, o, e, hb, hc⟩
      · omega
      · cases e
        have hadd : (⟨b, o, none⟩ : Addr).add j = ⟨b, o + j, none⟩ := by unfold Addr.add; split <;> simp_all
        obtain ⟨c0, c1, c2⟩ := hc (j / 3) p hp
        rw [hadd, hx.cell (p := ⟨b, o + j, none⟩) hb]
        rcases hu with ⟨h3, rfl⟩ | ⟨h3, rfl⟩ | ⟨h3, rfl⟩
        · rw [show o + j = o + j / 3 * 3 by omega]; exact c0
        · rw [show o + j = o + j / 3 * 3 + 1 by omega]; exact c1
        · rw [show o + j = o + j / 3 * 3 + 2 by omega]; exact c2
    have Hnews := Lib.hid hnews; have Hl := Lib.hid h.1; have Hk := Lib.hid hk
    clear h hnews hk
    go_enter Tryd.func35, Tryd.ntmps35
    go_wp2_with (at_builtin; refine wpList_append_own _ rfl _ _ 40 rfl w.heap.size 66 i0 (.agg #[.int .u16 0, .int .u16 0, .bool false]) 3 6 Tryd.underlying40 hi0 hz0 hz1 hz2 rfl (by decide) _ _ _ rfl (World.ownsRow_made w #[] 0 (Nat.le_refl _) (Nat.zero_le _) (by simp)) ad k c (pcs l) rfl (by rw [pcs_len, Hl.out]) (Hnews.out _ (ext_al w _)) (pcs_one l) (by unfold maxLen; have := Hk.out; omega) (by have := Hk.out; omega) (ext_al w _).size ?_; intro v' w1 hown hgrow _)
    go_ret
    rw [Nat.zero_add, List.nil_append] at hown
    exact ClR.of hown Hl.out (grown_ext (ext_al w _) hgrow (fun j hj => Nat.le_of_eq (Option.some.inj hj)))
end Go.Proofs.YtbmjobpobjfjeaaDoor
namespace Go.Proofs.YtbmjobpobjfjeaaDoor
open Go.RowKit

theorem map_app (l : List QP) (a b : List Gop) : (l.map (actL a)).map (actL b) = l.map (actL (a ++ b)) := by
  rw [List.map_map]
  exact List.map_congr_left fun p _ => (actL_append a b p).symm
theorem mnS_len (i : Nat) (p : QP) : (mnS i p).length ≤ 1 := by unfold mnS; split <;> simp
theorem gaS_len (n i : Nat) (p : QP) : (gaS n i p).length ≤ n + 1 := by
  unfold gaS
  rw [List.length_append]
  have h1 := gaL_len i n 0 (actL (gaA i p) p)
  have h2 : (gaA i p).length ≤ 1 := by unfold gaA; split <;> simp
  omega
theorem wayS_len (n i : Nat) (p : QP) : (wayS n i p).length ≤ 3 * n + 2 := by
  unfold wayS
  rw [List.length_append, List.length_append]
  have h1 := tzL_len (n - i) i p
  have h2 := gaS_len n i (actL (tzL (n - i) i p) p)
  have h3 := mnS_len i (actL (gaS n i (actL (tzL (n - i) i p) p)) (actL (tzL (n - i) i p) p))
  omega
theorem wayL_len (n : Nat) (l : List QP) : ∀ i, (wayL n l i).length ≤ i * (3 * n + 2)
  | 0 => by simp [wayL]
  | i + 1 => by
    unfold wayL
    rw [List.length_append, Nat.succ_mul]
    have h1 := wayL_len n l i
    have h2 := wayS_len n i (actL (wayL n l i) (l.getD i ⟨0, 0, false⟩))
    omega
set_option maxHeartbeats 400000 in
/-- '&homing{..}' in a drawn region. -/
theorem stepK_boxH {ops : Array Oper} {o : Oper} {a : Act} {K : Act → World → Prop} {Q : Exit → Act → World → Prop} {E : Prop} {w : World} (hgd : o.guard = none) (x : Operand) (ho : o.op = .box 81 x) (n : Int) (a' : Option Addr) (k c' : Nat)
    (hx : a.eval x = .agg #[.int .i64 n, .slice a' k c', .slice none 0 0]) (h : K (a.put o.dst (.pointer (some ⟨w.heap.size, 0, none⟩))) (w.alloc (.cells #[.int .i64 n, .slice a' k c', .slice none 0 0] 81))) :
    if Region.wanted o (yielded ops a.tmps) = true then Oper.wp Tryd.prog o a w K Q else E := by
  have hw : Region.wanted o (yielded ops a.tmps) = true := by simp [Region.wanted, hgd]
  rw [if_pos hw]
  obtain ⟨od, oo, ot, opp, oa, og⟩ := o
  simp only at ho
  subst ho
  have HH := Lib.hid h
  clear h
  unfold Oper.wp execOp
  simp only [hx]
  go_simp
  exact HH.out
/-- What wayHome answers. -/
def WhR (ops : List Gop) (w : World) (e : Ending) (w' : World) : Prop := ∃ v base, e = .returned v ∧ Ext w w' ∧ OpsO w' base v ops

set_option maxRecDepth 100000 in
set_option maxHeartbeats 8000000 in
theorem wayHome_any (n : Nat) (hn : n ≤ 12) (ps : List PK) (ao : Option Addr) (k c : Nat) (mp : Option Nat) (w : World) (h : PsAt w ao k ps) (hG : GoodL n (ps.map toQ)) :
    Calls Tryd.prog 14 #[.agg #[.int .i64 (n : Int), .slice ao k c, .map mp]] w fun e w' => WhR (wayL n (ps.map toQ) k) w e w' := by
  have hlen : (ps.map toQ).length = k := by rw [List.length_map]; exact h.1
  have hkn : k ≤ n := by rw [← hlen]; exact hG.len
  have hok : ∀ p ∈ ps.map toQ, p.ok := fun p hp => by
    obtain ⟨x, _, rfl⟩ := List.mem_map.1 hp
    exact ⟨x.hx, x.hz⟩
  have fR := FrB.new w (n : Int) ao k c mp
  have E0 := ext_al w (.cells #[.int .i64 (n : Int), .slice ao k c, .map mp] 44)
  obtain ⟨H, hH⟩ : ∃ H, w.heap.size = H := ⟨_, rfl⟩
  obtain ⟨W0, hW0⟩ : ∃ V, w.alloc (.cells #[.int .i64 (n : Int), .slice ao k c, .map mp] 44) = V := ⟨_, rfl⟩
  rw [hW0] at fR E0
  rw [hH] at fR
  have HCl := Lib.hid (clone_p ps ao k c W0.drew ((h.ext E0).ext (Below.drew (Ext.refl _))) (by omega))
  obtain ⟨l, hl⟩ : ∃ l, ps.map toQ = l := ⟨_, rfl⟩
  rw [hl] at hlen hok hG ⊢
  have Hl := Lib.hid hl; have HG := Lib.hid hG; have Hlen := Lib.hid hlen; have Hok := Lib.hid hok; have Hn := Lib.hid hn; have Hkn := Lib.hid hkn; have HE0 := Lib.hid E0; have HW0 := Lib.hid hW0; have HH := Lib.hid hH; have HF := Lib.hid fR
  have Hway := Lib.hid (fun i hi => way_home (by omega : n ≤ 16) hG i hi)
  have Hstep := Lib.hid (fun (i : Nat) (h1 : ∀ o ∈ wayL n l i, WOk n o) h2 hi => step_home' (by omega : n ≤ 16) hG (i := i) h1 h2 hi)
  clear h hlen hkn hok fR E0 hH hW0 hl hG hn
  go_enter Tryd.func14, Tryd.ntmps14
  go_upto_region 1 with fail
  rw [HW0.out, HH.out]
  have HSt := Lib.hid (fun (w' : World) (hx : Ext W0 w') => (show w'.cell? ⟨H, 0, none⟩ = some (.int .i64 (n : Int)) ∧ w'.cell? ⟨H, 1, none⟩ = some (.slice ao k c) from ⟨cell_ext HF.out.x0 hx, cell_ext HF.out.x1 hx⟩))
  have hd0 : Ext W0 W0.drew := Below.drew (Ext.refl _)
  refine wp_region_K 7 (fun w' => w'.cell? ⟨H, 0, none⟩ = some (.int .i64 (n : Int)) ∧ w'.cell? ⟨H, 1, none⟩ = some (.slice ao k c)) (by kernel_rfl) ?_
  show anyK _ _ _ _ _ _ 8 #[false, false, false, false, false, false, false, false] _ _
  refine anyK_take (i := 0) (v := ?_) rfl (by kernel_rfl) (by kernel_rfl) (by kernel_rfl) (N := 8) (by kernel_rfl) (by kernel_rfl) (by kernel_rfl) (fun _ _ _ h => h) (Or.inl ⟨by rfl, ?_⟩) (HSt.out _ hd0) ?_
  rotate_left 1
  · intro w hSw
    go_simp
    try with_reducible rfl
  show anyK _ _ _ _ _ _ _ _ (Act.put _ (some 5) _) _
  simp only [Act.put, List.setIfInBounds_toArray, List.set_cons_zero, List.set_cons_succ]
  refine anyK_take (i := 1) (v := ?_) rfl (by kernel_rfl) (by kernel_rfl) (by kernel_rfl) (N := 8) (by kernel_rfl) (by kernel_rfl) (by kernel_rfl) (fun _ _ _ h => h) (Or.inl ⟨by rfl, ?_⟩) (HSt.out _ hd0) ?_
  rotate_left 1
  · intro w hSw
    go_simp
    try with_reducible rfl
  show anyK _ _ _ _ _ _ _ _ (Act.put _ (some 6) _) _
  simp only [Act.put, List.setIfInBounds_toArray, List.set_cons_zero, List.set_cons_succ]
  refine anyK_take (i := 2) (v := ?_) rfl (by kernel_rfl) (by kernel_rfl) (by kernel_rfl) (N := 8) (by kernel_rfl) (by kernel_rfl) (by kernel_rfl) (fun _ _ _ h => h) (Or.inl ⟨by rfl, ?_⟩) (HSt.out _ hd0) ?_
  rotate_left 1
  · intro w hSw
    go_simp
    try with_reducible rfl
  show anyK _ _ _ _ _ _ _ _ (Act.put _ (some 7) _) _
  simp only [Act.put, List.setIfInBounds_toArray, List.set_cons_zero, List.set_cons_succ]
  refine anyK_take (i := 3) (v := ?_) rfl (by kernel_rfl) (by kernel_rfl) (by kernel_rfl) (N := 8) (by kernel_rfl) (by kernel_rfl) (by kernel_rfl) (fun _ _ _ h => h) (Or.inl ⟨by rfl, ?_⟩) (HSt.out _ hd0) ?_
  rotate_left 1
  · intro w hSw
    go_simp
    try with_reducible rfl
  show anyK _ _ _ _ _ _ _ _ (Act.put _ (some 8) _) _
  simp only [Act.put, List.setIfInBounds_toArray, List.set_cons_zero, List.set_cons_succ]
  refine anyK_one (i := 4) (by kernel_rfl) rfl (fun Kk hKk => ?_)
  go_simp
  (go_at_call 35; refine HCl.out.mono ?_; rintro e w2 ⟨a', c', rfl, x2, hg⟩)
  have E2 : Ext W0 w2 := hd0.trans x2
  have Hg := Lib.hid hg
  clear hg x2 HCl
  go_wp2_with fail
  refine hKk.out _ _ (fun _ => HSt.out _ E2) ?_
  clear hKk Kk
  simp only [List.setIfInBounds_toArray, List.set_cons_zero, List.set_cons_succ]
  refine anyK_take (i := 5) (v := ?_) rfl (by kernel_rfl) (by kernel_rfl) (by kernel_rfl) (N := 8) (by kernel_rfl) (by kernel_rfl) (by kernel_rfl) (fun _ _ _ h => h) (Or.inl ⟨by rfl, ?_⟩) (HSt.out _ E2) ?_
  rotate_left 1
  · intro w hSw
    go_simp
    try with_reducible rfl
  show anyK _ _ _ _ _ _ _ _ (Act.put _ (some 10) _) _
  simp only [Act.put, List.setIfInBounds_toArray, List.set_cons_zero, List.set_cons_succ]
  refine anyK_one (i := 6) (by kernel_rfl) rfl (fun Kk hKk => ?_)
  refine stepK_boxH rfl _ rfl (n : Int) a' k c' rfl ?_
  have E3 : Ext W0 (w2.alloc (.cells #[.int .i64 (n : Int), .slice a' k c', .slice none 0 0] 81)) := E2.trans (ext_al _ _)
  refine hKk.out _ _ (fun _ => HSt.out _ E3) ?_
  clear hKk Kk
  show anyK _ _ _ _ _ _ _ _ (Act.put _ (some 11) _) _
  simp only [Act.put, List.setIfInBounds_toArray, List.set_cons_zero, List.set_cons_succ]
  refine anyK_one (i := 7) (by kernel_rfl) rfl (fun Kk hKk => ?_)
  go_wp2_with fail
  refine hKk.out _ _ (fun h => Bool.noConfusion (show true = false from h)) ?_
  clear hKk Kk
  simp only [List.setIfInBounds_toArray, List.set_cons_zero, List.set_cons_succ]
  refine anyK_done (by kernel_rfl) ?_ _
  obtain ⟨B, hB⟩ : ∃ B, w2.heap.size = B := ⟨_, rfl⟩
  obtain ⟨W3, hW3⟩ : ∃ V, w2.alloc (.cells #[.int .i64 (n : Int), .slice a' k c', .slice none 0 0] 81) = V := ⟨_, rfl⟩
  have hrowB : W3.heap[B]? = some (.cells #[.int .i64 (n : Int), .slice a' k c', .slice none 0 0] 81 (0, 0)) := by rw [← hW3, ← hB]; exact heap_alloc_new w2 _
  have hs3 : W3.heap.size = B + 1 := by rw [← hW3, ← hB]; simp
  have hE23 : Ext w2 W3 := by rw [← hW3]; exact ext_al _ _
  rw [hW3] at E3
  rw [hW3, hB]
  have hHB : H < B := by rw [← hB]; exact Nat.lt_of_lt_of_le HF.out.lt E2.size
  have hwH : w.heap.size ≤ H := Nat.le_of_eq HH.out
  have hS : ∃ g, HmS w W3 (B + 1) B g n k a' c' l (.slice none 0 0) [] := by
    rcases Hg.out with h0 | ⟨g, e1, e2, e3⟩
    · exact ⟨H, HE0.out.trans E3, hrowB, Hlen.out, Or.inl h0, OpsO.nil _ _, by omega, by omega, by omega, by omega, by omega, by omega⟩
    · have hgl := e3.lt
      rw [Hl.out] at e3
      have hgw : w.heap.size ≤ g := Nat.le_trans HE0.out.size e2
      exact ⟨g, HE0.out.trans E3, hrowB, Hlen.out, Or.inr ⟨e1, e3.ext hE23⟩, OpsO.nil _ _, by omega, by omega, hgw, by omega, by omega, by omega⟩
  obtain ⟨g, hS⟩ := hS
  have HS := Lib.hid hS
  have hx1 := hS.x1
  clear hS hE23 E3 E2 hd0 hrowB hs3 hW3 hHB hwH Hg HSt hB
  go_wp2_with fail
  go_loopg [17] k (fun kk s17 wr => ∃ (i : Nat) (v1 : Value), s17 = .int .i64 (i : Int) ∧ i ≤ k ∧ k - i = kk ∧ HmS w wr (B + 1) B g n k a' c' (l.map (actL (wayL n l i))) v1 (wayL n l i))
  case atStart => exact ⟨0, _, rfl, Nat.zero_le _, rfl, by rw [show wayL n l 0 = [] from rfl, show actL [] = fun p => p from rfl, List.map_id']; exact HS.out⟩
  case round =>
    obtain ⟨i, v1, rfl, hi, hkk, hS⟩ := hrel
    have Hkk := Lib.hid hkk; have HS := Lib.hid hS
    by_cases hik : i = k
    · have p1 : ¬ (i : Int) < (k : Int) := by omega
      rw [hik] at HS
      have hx2 := HS.out.x2
      clear hkk hS hi hik hx1
      go_wp2_with fail
      go_ret
      exact ⟨v1, B + 1, rfl, HS.out.e, HS.out.os⟩
    have hlt : i < k := by omega
    have p1 : (i : Int) < (k : Int) := by omega
    have i0 : (0 : Int) ≤ (i : Int) := by omega
    have wi : IntKind.i64.wrap ((i : Int) + 1) = ((i + 1 : Nat) : Int) := by rw [IntKind.wrap_i64]; have := Hn.out; have := Hkn.out; omega
    obtain ⟨h1, h2⟩ := Hway.out i (by rw [Hlen.out]; omega)
    obtain ⟨g1, g2, _, _⟩ := Hstep.out i h1 h2 (by rw [Hlen.out]; exact hlt)
    have hFl : (wayL n l i).length ≤ 500 := by
      have h3 := wayL_len n l i
      have h4 : i * (3 * n + 2) ≤ 12 * 38 := Nat.mul_le_mul (by have := Hn.out; have := Hkn.out; omega) (by have := Hn.out; omega)
      omega
    obtain ⟨pp, hpp⟩ : ∃ p, l[i]? = some p := ⟨_, List.getElem?_eq_getElem (by rw [Hlen.out]; exact hlt)⟩
    have hgd : l.getD i ⟨0, 0, false⟩ = pp := by rw [List.getD_eq_getElem?_getD, hpp]; rfl
    have hw1 : wayL n l (i + 1) = wayL n l i ++ wayS n i (actL (wayL n l i) pp) := by rw [← hgd]; rfl
    rw [hgd] at g1 g2
    obtain ⟨F, hF⟩ : ∃ F, wayL n l i = F := ⟨_, rfl⟩
    rw [hF] at hw1 g1 g2 h1 hFl HS
    obtain ⟨p, hp⟩ : ∃ p, actL F pp = p := ⟨_, rfl⟩
    rw [hp] at hw1 g1 g2
    have hpi : (l.map (actL F))[i]? = some p := by rw [List.getElem?_map, hpp, ← hp]; rfl
    have hok1 := list_ok (by have := Hn.out; omega) h1 Hok.out
    have hTok := tzL_ok (n := n) (n - i) i p (by have := Hkn.out; omega)
    have hTl := tzL_len (n - i) i p
    have hok2 := list_ok (by have := Hn.out; omega) hTok hok1
    have hGl := gaS_len n i (actL (tzL (n - i) i p) p)
    have hpi2 : ((l.map (actL F)).map (actL (tzL (n - i) i p)))[i]? = some (actL (tzL (n - i) i p) p) := by rw [List.getElem?_map, hpi]; rfl
    have HTz := Lib.hid (turnToZ_any HS.out (by have := Hn.out; omega) (by have := Hn.out; have := Hkn.out; omega) hok1 (by omega) hpi (by have := Hkn.out; omega))
    have HGa := Lib.hid (fun wx v (h : HmS w wx (B + 1) B g n k a' c' ((l.map (actL F)).map (actL (tzL (n - i) i p))) v (F ++ tzL (n - i) i p)) => gather_any h (by have := Hn.out; omega) (by have := Hn.out; have := Hkn.out; omega) hok2 (by rw [List.length_append]; have := Hn.out; omega) hpi2 (by have := Hkn.out; omega) g1)
    unfold wayS at hw1 g2
    obtain ⟨T, hT⟩ : ∃ T, tzL (n - i) i p = T := ⟨_, rfl⟩
    rw [hT] at hw1 g2 hTl hGl hpi2 HTz HGa hok2 hTok
    obtain ⟨q1, hq1⟩ : ∃ q, actL T p = q := ⟨_, rfl⟩
    rw [hq1] at hw1 g2 hGl hpi2 HGa
    obtain ⟨G, hGe⟩ : ∃ G, gaS n i q1 = G := ⟨_, rfl⟩
    rw [hGe] at hw1 g2 hGl HGa
    have hpi3 : (((l.map (actL F)).map (actL T)).map (actL G))[i]? = some (actL G q1) := by rw [List.getElem?_map, hpi2]; rfl
    obtain ⟨q2, hq2⟩ : ∃ q, actL G q1 = q := ⟨_, rfl⟩
    rw [hq2] at hw1 g2 hpi3
    have hok3 := list_ok (by have := Hn.out; omega) (fun o ho => g2 o (List.mem_append_right _ (List.mem_append_left _ ho))) hok2
    have HX := Lib.hid (fun wx v (h : HmS w wx (B + 1) B g n k a' c' (((l.map (actL F)).map (actL T)).map (actL G)) v ((F ++ T) ++ G)) => do_any h (by have := Hn.out; omega) (by have := Hn.out; have := Hkn.out; omega) hok3 (by rw [List.length_append, List.length_append]; have := Hn.out; omega) (.x (q := i) (by have := Hkn.out; omega)) none 0 0 none 0 0 (nilO wx rfl rfl))
    have Hw1 := Lib.hid hw1; have Hpi3 := Lib.hid hpi3; have Hlt := Lib.hid hlt
    clear hkk hS hi hik hlt h1 h2 g1 g2 hFl hpp hgd hw1 hF hp hpi hok1 hTok hTl hok2 hGl hpi2 hT hq1 hGe hpi3 hq2 hok3 hx1
    go_wp2_with fail
    refine HTz.out.mono ?_
    rintro e w5 ⟨⟨x5, rfl⟩, v5, hS5⟩
    have HGa5 := Lib.hid (HGa.out w5 v5 hS5)
    clear hS5 HGa HTz
    go_wp2_with fail
    refine HGa5.out.mono ?_
    rintro e w6 ⟨⟨x6, rfl⟩, v6, hS6⟩
    have HS6 := Lib.hid hS6
    obtain ⟨hag, hGn, _⟩ := hS6.at Hpi3.out
    obtain ⟨_, _, e2⟩ := hGn.c i _ Hpi3.out
    have hx1 := hS6.x1
    have Hag := Lib.hid hag
    rw [hag] at hx1
    clear hS6 HGa5 hag hGn
    cases hm : q2.m with
    | false =>
      rw [hm] at e2
      have Hm := Lib.hid hm
      clear hm
      go_wp2_with fail
      go_roundg (k - (i + 1))
      case measure => have := Hkk.out; have := Hlt.out; omega
      case rel =>
        refine ⟨i + 1, v6, rfl, Hlt.out, rfl, ?_⟩
        have e3 : wayL n l (i + 1) = (F ++ T) ++ G := by rw [Hw1.out]; unfold mnS; rw [if_neg (by rw [Hm.out]; decide), List.append_nil, List.append_assoc]
        rw [e3, ← map_app, ← map_app]
        exact HS6.out
    | true =>
      rw [hm] at e2
      have Hm := Lib.hid hm
      have HX6 := Lib.hid (show Calls Tryd.prog 38 #[.pointer (some ⟨B, 0, none⟩), .agg #[.int .i64 2, .int .i64 0, .slice none 0 0, .int .i64 (i : Int), .int .i64 0, .slice none 0 0]] w6 _ from HX.out w6 v6 HS6.out)
      clear hm
      go_wp2_with fail
      refine HX6.out.mono ?_
      rintro e w7 ⟨⟨x7, rfl⟩, v7, hS7⟩
      have HS7 := Lib.hid hS7
      clear hS7 HX6 e2 hx1
      go_wp2_with fail
      go_roundg (k - (i + 1))
      case measure => have := Hkk.out; have := Hlt.out; omega
      case rel =>
        refine ⟨i + 1, v7, rfl, Hlt.out, rfl, ?_⟩
        have e3 : wayL n l (i + 1) = ((F ++ T) ++ G) ++ [wX i] := by rw [Hw1.out]; unfold mnS; rw [if_pos Hm.out, List.append_assoc, List.append_assoc]
        rw [e3, ← map_app, ← map_app, ← map_app]
        exact HS7.out
end Go.Proofs.YtbmjobpobjfjeaaDoor
namespace Go.Proofs.YtbmjobpobjfjeaaDoor
open Go.RowKit

theorem par_pc : ∀ f v, par f v = decide (pcF f v % 2 = 1)
  | 0, _ => rfl
  | f + 1, v => by
    rw [par, pcF, par_pc f]
    have h : v % 2 = 0 ∨ v % 2 = 1 := by omega
    rcases h with h | h <;> rw [h]
    · simp
    · have h2 : pcF f (v / 2) % 2 = 0 ∨ pcF f (v / 2) % 2 = 1 := by omega
      rcases h2 with h2 | h2
      · rw [h2, decide_eq_true (show (1 + pcF f (v / 2)) % 2 = 1 by omega)]; rfl
      · rw [h2, decide_eq_false (show ¬ (1 + pcF f (v / 2)) % 2 = 1 by omega)]; rfl
theorem ant_cm (p q : PK) : ant (toQ p) (toQ q) = !(cmB p q) := by
  rw [ant_word, par_pc]
  unfold cmB
  rw [Int.tmod_eq_emod_of_nonneg (by omega)]
  show decide (pcF 16 ((p.x &&& q.z) ^^^ (p.z &&& q.x)) % 2 = 1) = _
  generalize pcF 16 ((p.x &&& q.z) ^^^ (p.z &&& q.x)) = m
  have h2 : m % 2 = 0 ∨ m % 2 = 1 := by omega
  rcases h2 with h2 | h2
  · rw [decide_eq_false (by omega), show (((m : Nat) : Int) % 2 == 0) = true from beq_iff_eq.2 (by omega)]; rfl
  · rw [decide_eq_true h2, show (((m : Nat) : Int) % 2 == 0) = false from beq_eq_false_iff_ne.2 (by omega)]; rfl
theorem ant_comm (p r : QP) : ant p r = ant r p := by
  unfold ant
  rw [Nat.and_comm p.x, Nat.and_comm p.z, Bool.xor_comm]
theorem ant_self (p : QP) : ant p p = false := by
  unfold ant
  rw [Nat.and_comm p.z, Bool.xor_self]
theorem gs_zero (l : List PK) : ∀ i, (0, 0) ∈ gsL (l.take i)
  | 0 => by simp [gsL]
  | i + 1 => by
    rw [List.take_add_one]
    cases h : l[i]? with
    | none => rw [Option.toList_none, List.append_nil]; exact gs_zero l i
    | some g => rw [Option.toList_some, gsL_snoc]; exact List.mem_append_left _ (gs_zero l i)
theorem gs_add (l : List PK) : ∀ (i : Nat) (g : PK), g ∈ l.take i → ∀ x z, (x, z) ∈ gsL (l.take i) → (x ^^^ g.x, z ^^^ g.z) ∈ gsL (l.take i)
  | 0, g, hg, _, _, _ => by simp at hg
  | i + 1, g, hg, x, z, h => by
    rw [List.take_add_one] at hg h ⊢
    cases e : l[i]? with
    | none =>
      rw [e, Option.toList_none, List.append_nil] at hg h
      rw [Option.toList_none, List.append_nil]
      exact gs_add l i g hg x z h
    | some a =>
      rw [e, Option.toList_some] at hg h
      rw [Option.toList_some]
      rw [gsL_snoc] at h ⊢
      rcases List.mem_append.1 hg with hg | hg
      · rcases List.mem_append.1 h with h | h
        · exact List.mem_append_left _ (gs_add l i g hg x z h)
        · obtain ⟨q, hq, hqe⟩ := List.mem_map.1 h
          injection hqe with e1 e2
          subst e1 e2
          refine List.mem_append_right _ (List.mem_map.2 ⟨_, gs_add l i g hg q.1 q.2 hq, ?_⟩)
          rw [Nat.xor_assoc, Nat.xor_comm g.x, ← Nat.xor_assoc, Nat.xor_assoc q.2, Nat.xor_comm g.z, ← Nat.xor_assoc]
      · rw [List.mem_singleton.1 hg]
        rcases List.mem_append.1 h with h | h
        · exact List.mem_append_right _ (List.mem_map.2 ⟨_, h, rfl⟩)
        · obtain ⟨q, hq, hqe⟩ := List.mem_map.1 h
          injection hqe with e1 e2
          subst e1 e2
          rw [Nat.xor_assoc, Nat.xor_self, Nat.xor_zero, Nat.xor_assoc, Nat.xor_self, Nat.xor_zero]
          exact List.mem_append_left _ hq
theorem ins_gs (l : List PK) (i : Nat) {x z : Nat} (h : InS ((l.map toQ).take i) x z) : (x, z) ∈ gsL (l.take i) := by
  induction h with
  | zero => exact gs_zero l i
  | add hp _ ih =>
    rw [← List.map_take] at hp
    obtain ⟨g, hg, rfl⟩ := List.mem_map.1 hp
    exact gs_add l i g hg _ _ ih
/-- A code without a fault. -/
theorem good_code {N : Int} {gens : List (List UInt8)} (h : (ccF N gens).1 = 0) : GoodL N.toNat ((psL N.toNat gens).map toQ) := by
  obtain ⟨h1, h12, hkN, hall⟩ := cc_zero h
  have hn : N.toNat ≤ 12 := by omega
  rw [← rd_cc] at h
  unfold rdF at h
  rw [if_neg (by omega), if_neg (by omega)] at h
  have hpb : ¬ pbI N.toNat gens ≠ -1 := fun e => by rw [if_pos e] at h; exact absurd h (by show ¬ (33 : Int) = 0; decide)
  rw [if_neg hpb] at h
  have hap : ¬ 0 ≤ apI (psL N.toNat gens) := fun e => by rw [if_pos e] at h; exact absurd h (by show ¬ (34 : Int) = 0; decide)
  rw [if_neg hap] at h
  have hdp : ¬ 0 ≤ dpI (psL N.toNat gens) := fun e => by rw [if_pos e] at h; exact absurd h (by show ¬ (35 : Int) = 0; decide)
  have ha : ∀ j, j < (psL N.toNat gens).length → apAt (psL N.toNat gens) j = false := fun j hj => by
    refine fstI_ne _ (psL N.toNat gens).length 0 ?_ j (by omega) (by omega)
    rcases fstI_sign (apAt (psL N.toNat gens)) (psL N.toNat gens).length 0 with e | e
    · exact e
    · exact absurd e hap
  have hd : ∀ j, j < (psL N.toNat gens).length → dpAt (psL N.toNat gens) j = false := fun j hj => by
    refine fstI_ne _ (psL N.toNat gens).length 0 ?_ j (by omega) (by omega)
    rcases fstI_sign (dpAt (psL N.toNat gens)) (psL N.toNat gens).length 0 with e | e
    · exact e
    · exact absurd e hdp
  have hfit : ∀ p ∈ (psL N.toNat gens).map toQ, p.x < 2 ^ N.toNat ∧ p.z < 2 ^ N.toNat := fun p hp => by
    obtain ⟨a, haa, rfl⟩ := List.mem_map.1 hp
    obtain ⟨T, hT, rfl⟩ := List.mem_map.1 haa
    obtain ⟨e1, e2, _⟩ := pkO_is hn T
    have hi := hall T hT
    have hl : (T.drop 1).length = N.toNat := (isP_let hi).2.1
    show (pkO N.toNat T).x < _ ∧ (pkO N.toNat T).z < _
    rw [e1, e2]
    unfold paX paZ
    rw [if_pos hi, if_pos hi, ← hl]
    exact ⟨nX_lt _, nZz_lt _⟩
  obtain ⟨l, hl⟩ : ∃ l, psL N.toNat gens = l := ⟨_, rfl⟩
  have hll : l.length = gens.length := by rw [← hl]; unfold psL; rw [List.length_map]
  rw [hl] at ha hd hfit ⊢
  refine ⟨by rw [List.length_map]; omega, hfit, fun a hai b hbi => ?_, fun i p hp hin => ?_⟩
  · obtain ⟨pa, hpa, rfl⟩ := List.mem_map.1 hai
    obtain ⟨pb, hpb', rfl⟩ := List.mem_map.1 hbi
    obtain ⟨i, hi⟩ := List.mem_iff_getElem?.1 hpa
    obtain ⟨j, hj⟩ := List.mem_iff_getElem?.1 hpb'
    have key : ∀ (i j : Nat) (p q : PK), l[i]? = some p → l[j]? = some q → i < j → ant (toQ p) (toQ q) = false := fun i j p q hi hj hij => by
      have hjl := (List.getElem?_eq_some_iff.1 hj).1
      have h9 := ha j hjl
      unfold apAt at h9
      rw [hj] at h9
      simp only at h9
      rw [List.any_eq_false] at h9
      have h8 := h9 p (List.mem_of_getElem? (i := i) (by rw [List.getElem?_take, if_pos hij]; exact hi))
      rw [ant_cm]
      simpa using h8
    rcases Nat.lt_trichotomy i j with e | e | e
    · exact key i j pa pb hi hj e
    · subst e
      rw [hi] at hj
      cases hj
      exact ant_self _
    · rw [ant_comm]
      exact key j i pb pa hj hi e
  · rw [List.getElem?_map] at hp
    obtain ⟨q, hq, rfl⟩ := Option.map_eq_some_iff.1 hp
    have hil := (List.getElem?_eq_some_iff.1 hq).1
    have h9 := hd i hil
    unfold dpAt at h9
    rw [hq] at h9
    simp only at h9
    exact of_decide_eq_false h9 (ins_gs l i hin)
/-- Operations of a way home make a pure circuit. -/
theorem way_code {n : Nat} (_ : n ≤ 12) {o : Gop} (ho : WOk n o) : opCode o (n : Int) 0 = 0 ∧ o.kind < 5 ∧ o.cnd = [] := by
  cases ho with
  | @x q h =>
    refine ⟨?_, by show (2 : Int) < 5; decide, rfl⟩
    have h1 : below (q : Int) (n : Int) = true := by unfold below; rw [decide_eq_true (by omega), decide_eq_true (by omega)]; rfl
    simp [opCode, wX, fitsB, usesK, usesQ, usesC, usesB, ctlCode, cndOk, h1]
  | @cx q c h h2 h3 =>
    refine ⟨?_, by show (2 : Int) < 5; decide, rfl⟩
    have h1 : below (q : Int) (n : Int) = true := by unfold below; rw [decide_eq_true (by omega), decide_eq_true (by omega)]; rfl
    have h4 : below (c : Int) (n : Int) = true := by unfold below; rw [decide_eq_true (by omega), decide_eq_true (by omega)]; rfl
    have h5 : ¬ (c : Int) = (q : Int) := by omega
    simp [opCode, wCX, fitsB, usesK, usesQ, usesC, usesB, ctlCode, cndOk, h1, h4, h5]
  | @h q h =>
    refine ⟨?_, by show (3 : Int) < 5; decide, rfl⟩
    have h1 : below (q : Int) (n : Int) = true := by unfold below; rw [decide_eq_true (by omega), decide_eq_true (by omega)]; rfl
    simp [opCode, wH, fitsB, usesK, usesQ, usesC, usesB, ctlCode, cndOk, h1]
  | @p q k h hk =>
    refine ⟨?_, by show (4 : Int) < 5; decide, rfl⟩
    rcases hk with rfl | rfl <;> simp [opCode, wP, fitsB, usesK, usesQ, usesC, usesB, ctlCode, cndOk, below, h]
theorem way_pur {n : Nat} (h1 : 1 ≤ n) (hn : n ≤ 12) {ops : List Gop} (ho : ∀ o ∈ ops, WOk n o) (hl : ops.length ≤ 4096) : pur ⟨(n : Int), 0, ops⟩ = (0, 0) := by
  have hops : ∀ (l : List Gop) (i : Nat), (∀ o ∈ l, WOk n o) → opsCode (n : Int) 0 i l = (0, 0) := by
    intro l
    induction l with
    | nil => intro i _; rfl
    | cons o r ih => intro i h; rw [opsCode, if_neg (by rw [(way_code hn (h o (by simp))).1]; decide)]; exact ih _ fun x hx => h x (List.mem_cons_of_mem _ hx)
  have hpf : ∀ (l : List Gop) (i : Nat), (∀ o ∈ l, WOk n o) → purF i l = (0, 0) := by
    intro l
    induction l with
    | nil => intro i _; rfl
    | cons o r ih =>
      intro i h
      have hw := way_code hn (h o (by simp))
      rw [purF, if_neg (by rw [hw.2.2]; have := hw.2.1; simp; omega)]
      exact ih _ fun x hx => h x (List.mem_cons_of_mem _ hx)
  have hck : chk ⟨(n : Int), 0, ops⟩ = (0, 0) := by
    unfold chk
    simp only
    rw [if_neg (by omega), if_neg (by omega), if_neg (by omega)]
    exact hops ops 0 ho
  unfold pur
  rw [hck]
  exact hpf ops 0 ho
end Go.Proofs.YtbmjobpobjfjeaaDoor
namespace Go.Proofs.YtbmjobpobjfjeaaDoor
open Go.RowKit

theorem cic_info : (Tryd.prog.info? 27).map (·.size) = some 3 := by kernel_rfl
/-- The way home of a code. -/
def wayC (n : Nat) (gens : List (List UInt8)) : List Gop := wayL n ((psL n gens).map toQ) gens.length
theorem wayC_ok {n : Nat} {gens : List (List UInt8)} (h : (ccF (n : Int) gens).1 = 0) : (∀ o ∈ wayC n gens, WOk n o) ∧ (wayC n gens).length ≤ gens.length * (3 * n + 2) := by
  have hG := good_code h
  rw [Int.toNat_natCast] at hG
  obtain ⟨_, h12, _, _⟩ := cc_zero h
  exact ⟨(way_home (by omega) hG gens.length (by rw [List.length_map]; unfold psL; rw [List.length_map]; exact Nat.le_refl _)).1, wayL_len _ _ _⟩

set_option maxRecDepth 100000 in
set_option maxHeartbeats 8000000 in
theorem Encoder_bad (N : Int) (gens : List (List UInt8)) (ao : Option Addr) (k c : Nat) (w : World) (hG : StrsAt w ao k gens) (hT : ∀ T ∈ gens, T.length ≤ 9223372036854775807) (hk9 : k ≤ 9223372036854775806) (hz : ¬ (ccF N gens).1 = 0) :
    Calls Tryd.prog 4 #[.agg #[.int .i64 N, .slice ao k c]] w fun e w' => e = .returned (.tuple #[.agg #[.int .i64 0, .int .i64 0, .slice none 0 0], .agg #[.int .i64 (ccF N gens).1, .int .i64 (ccF N gens).2]]) ∧ Ext w w' := by
  obtain ⟨H, hH⟩ : ∃ H, w.heap.size = H := ⟨_, rfl⟩
  obtain ⟨W0, hW0⟩ : ∃ W0, ((w.alloc (.cells #[.int .i64 N, .slice ao k c] 24)).alloc (.cells #[.int .i64 0, .int .i64 0, .slice none 0 0] 27)).alloc (.cells #[.int .i64 0, .int .i64 0] 29) = W0 := ⟨_, rfl⟩
  have E0 : Ext w W0 := by rw [← hW0]; exact ((ext_al w _).trans (ext_al _ _)).trans (ext_al _ _)
  have C0 : CoB W0 H N ao k c := by rw [← hW0, ← hH]; exact ((CoB.new w _ _ _ _).ext (ext_al _ _)).ext (ext_al _ _)
  have s1 : (w.alloc (.cells #[.int .i64 N, .slice ao k c] 24)).heap.size = H + 1 := by rw [← hH]; simp
  have s2 : ((w.alloc (.cells #[.int .i64 N, .slice ao k c] 24)).alloc (.cells #[.int .i64 0, .int .i64 0, .slice none 0 0] 27)).heap.size = H + 2 := by rw [World.size_alloc, s1]
  have R0 : CiB W0 (H + 1) 0 0 none 0 0 := by rw [← hW0, ← s1]; exact CiB.ext ⟨heap_alloc_new _ _⟩ (ext_al _ _)
  have bF : FtB W0 (H + 2) 0 0 := ⟨by rw [← hW0, ← s2]; exact heap_alloc_new _ _⟩
  have HRd := Lib.hid (read_any N gens ao k c W0 (hG.ext E0) hT hk9)
  unfold RdP at HRd
  rw [rd_cc] at HRd
  obtain ⟨F, hF⟩ : ∃ F, ccF N gens = F := ⟨_, rfl⟩
  obtain ⟨F0, F1⟩ := F
  have Hcc := Lib.hid hF
  have Hlk := Lib.hid (show gens.length = k from hG.1)
  rw [hF] at HRd hz ⊢
  simp only at HRd hz ⊢
  have HE0 := Lib.hid E0; have HFt := Lib.hid bF; have HRt := Lib.hid R0; have HC := Lib.hid C0; have HW0 := Lib.hid hW0; have HH := Lib.hid hH; have Hz := Lib.hid hz
  have HwH := Lib.hid (show w.heap.size ≤ H + 1 ∧ w.heap.size ≤ H + 2 by omega)
  have v0 := C0.x0; have v1 := C0.x1
  clear hG hT hk9 hH hW0 E0 C0 bF R0 hF s1 s2 hz
  go_enter Tryd.func4, Tryd.ntmps4
  go_upto_region 1 with fail
  rw [HW0.out, HH.out]
  go_wp2_with fail
  refine HRd.out.mono ?_
  rintro e w1 ⟨N', a, n, c', mp, rfl, hx1, hrd⟩
  obtain ⟨U, hU⟩ : ∃ U, (w1.alloc (.cells #[.int .i64 N', .slice a n c', .map mp] 44)).alloc (.cells #[.int .i64 F0, .int .i64 F1] 29) = U := ⟨_, rfl⟩
  obtain ⟨K, hK⟩ : ∃ K, w1.heap.size = K := ⟨_, rfl⟩
  have E1U : Ext w1 U := by rw [← hU]; exact (ext_al _ _).trans (ext_al _ _)
  have EU : Ext W0 U := hx1.trans E1U
  have fU : FrB U K N' a n c' mp := by rw [← hU, ← hK]; exact (FrB.new _ _ _ _ _ _).ext (ext_al _ _)
  have bU : FtB U (K + 1) F0 F1 := ⟨by
    have := heap_alloc_new (w1.alloc (.cells #[.int .i64 N', .slice a n c', .map mp] 44)) (.cells #[.int .i64 F0, .int .i64 F1] 29)
    rw [← hU, ← hK]
    simpa using this⟩
  have hKH : H + 2 < K := by rw [← hK]; exact Nat.lt_of_lt_of_le HFt.out.lt hx1.size
  have HKH := Lib.hid hKH
  have HU := Lib.hid hU; have HK := Lib.hid hK; have HEU := Lib.hid EU; have Hrd := Lib.hid hrd; have HE1U := Lib.hid E1U
  have e1 : ¬ K = H := by omega
  have e2 : ¬ H = K := by omega
  have e3 : ¬ K = H + 1 := by omega
  have e4 : ¬ H + 1 = K := by omega
  have e5 : ¬ K = H + 2 := by omega
  have e6 : ¬ H + 2 = K := by omega
  clear hKH
  have u0 := bU.x0; have u1 := bU.x1; have f0 := fU.x0; have f1 := fU.x1; have f2 := fU.x2
  have d0 := (HC.out.ext EU).x0
  have Hbz := Lib.hid (HFt.out.ext EU); have Hrz := Lib.hid (HRt.out.ext EU)
  have HEy := Lib.hid (HE0.out.trans EU)
  have HbU := Lib.hid bU; have HfU := Lib.hid fU
  clear hx1 hU hK EU bU fU v0 v1 HRd hrd E1U
  go_upto_region 2 with fail
  rw [HU.out, HK.out]
  clear HU HK
  have hcb := bf Hz.out
  have hcb2 : ((F0 : Int) != 0) = true := by rw [bne, hcb]; rfl
  have HSj := Lib.hid (fun (w' : World) (hx : Ext U w') => (show w'.cell? ⟨H, 0, none⟩ = some (.int .i64 N) ∧ w'.cell? ⟨K, 0, none⟩ = some (.int .i64 N') ∧ w'.cell? ⟨K, 1, none⟩ = some (.slice a n c') ∧ w'.cell? ⟨K, 2, none⟩ = some (.map mp) ∧ w'.cell? ⟨K + 1, 0, none⟩ = some (.int .i64 F0) ∧ w'.cell? ⟨K + 1, 1, none⟩ = some (.int .i64 F1) from ⟨cell_ext d0 hx, cell_ext f0 hx, cell_ext f1 hx, cell_ext f2 hx, cell_ext u0 hx, cell_ext u1 hx⟩))
  have HSl := Lib.hid (fun (wy : World) (w' : World) (hy : Ext U wy) (hO : Only (H + 1) wy w') => (show w'.cell? ⟨H, 0, none⟩ = some (.int .i64 N) ∧ w'.cell? ⟨K, 0, none⟩ = some (.int .i64 N') ∧ w'.cell? ⟨K, 1, none⟩ = some (.slice a n c') ∧ w'.cell? ⟨K, 2, none⟩ = some (.map mp) ∧ w'.cell? ⟨K + 1, 0, none⟩ = some (.int .i64 F0) ∧ w'.cell? ⟨K + 1, 1, none⟩ = some (.int .i64 F1) from (by
    have hc : ∀ g o', g ≠ H + 1 → w'.cell? ⟨g, o', none⟩ = wy.cell? ⟨g, o', none⟩ := fun g o' hg => World.cell?_of_block (a := ⟨g, o', none⟩) (hO.block g hg)
    have hK := HKH.out
    exact ⟨(hc H 0 (by omega)).trans (cell_ext d0 hy), (hc K 0 e3).trans (cell_ext f0 hy), (hc K 1 e3).trans (cell_ext f1 hy), (hc K 2 e3).trans (cell_ext f2 hy), (hc (K + 1) 0 (by omega)).trans (cell_ext u0 hy), (hc (K + 1) 1 (by omega)).trans (cell_ext u1 hy)⟩)))
  go_upto_region 3 with fail
  have G_ : Ext U U.drew := Below.drew (Ext.refl _)
  refine wp_region_K 3 (fun w' => w'.cell? ⟨H, 0, none⟩ = some (.int .i64 N) ∧ w'.cell? ⟨K, 0, none⟩ = some (.int .i64 N') ∧ w'.cell? ⟨K, 1, none⟩ = some (.slice a n c') ∧ w'.cell? ⟨K, 2, none⟩ = some (.map mp) ∧ w'.cell? ⟨K + 1, 0, none⟩ = some (.int .i64 F0) ∧ w'.cell? ⟨K + 1, 1, none⟩ = some (.int .i64 F1)) (by kernel_rfl) ?_
  show anyK _ _ _ _ _ _ 4 #[false, false, false, false] _ _
  refine anyK_take (i := 0) (v := ?_) rfl (by kernel_rfl) (by kernel_rfl) (by kernel_rfl) (N := 4) (by kernel_rfl) (by kernel_rfl) (by kernel_rfl) (fun _ _ _ h => h) (Or.inl ⟨by rfl, ?_⟩) (HSj.out _ G_) ?_
  rotate_left 1
  · intro w hSw
    go_simp
    try with_reducible rfl
  show anyK _ _ _ _ _ _ _ _ (Act.put _ (some 14) _) _
  simp only [Act.put, List.setIfInBounds_toArray, List.set_cons_zero, List.set_cons_succ]
  refine anyK_take (i := 1) (v := ?_) rfl (by kernel_rfl) (by kernel_rfl) (by kernel_rfl) (N := 4) (by kernel_rfl) (by kernel_rfl) (by kernel_rfl) (fun _ _ _ h => h) (Or.inl ⟨by rfl, ?_⟩) (HSj.out _ G_) ?_
  rotate_left 1
  · intro w hSw
    go_simp
    try with_reducible rfl
  show anyK _ _ _ _ _ _ _ _ (Act.put _ (some 15) _) _
  simp only [Act.put, List.setIfInBounds_toArray, List.set_cons_zero, List.set_cons_succ]
  refine anyK_one (i := 2) (by kernel_rfl) rfl (fun Kk hKk => ?_)
  refine stepK_storeRowC rfl rfl 27 _ _ rfl (H + 1) #[.int .i64 0, .int .i64 0, .slice none 0 0] rfl rfl 27 _ (Hrz.out.ext G_).row cic_info rfl (by kernel_rfl) ?_
  have on1 := setRow_onlyC U.drew (H + 1) #[.int .i64 0, .int .i64 0, .slice none 0 0]
  refine hKk.out _ _ (fun _ => HSl.out _ _ G_ on1) ?_
  clear hKk Kk
  simp only [List.setIfInBounds_toArray, List.set_cons_zero, List.set_cons_succ]
  have b2 := (on1.block (H + 2) (by omega)).trans (Hbz.out.ext G_).row
  refine anyK_one (i := 3) (by kernel_rfl) rfl (fun Kk hKk => ?_)
  refine stepK_storeRowC rfl rfl 29 _ _ rfl (H + 2) #[.int .i64 F0, .int .i64 F1] rfl rfl 29 _ b2 ftc_info rfl (by kernel_rfl) ?_
  refine hKk.out _ _ (fun h => Bool.noConfusion (show true = false from h)) ?_
  clear hKk Kk
  simp only [List.setIfInBounds_toArray, List.set_cons_zero, List.set_cons_succ]
  refine anyK_done (by kernel_rfl) ?_ _
  have on2 := setRow_onlyC (U.drew.setRow (H + 1) #[.int .i64 0, .int .i64 0, .slice none 0 0]) (H + 2) #[.int .i64 F0, .int .i64 F1]
  have Hr1 := Lib.hid ((on2.block (H + 1) (by omega)).trans (setRow_heap U.drew (H + 1) _ #[.int .i64 0, .int .i64 0, .slice none 0 0] _ _ (Hrz.out.ext G_).row))
  have Hr2 := Lib.hid (setRow_heap (U.drew.setRow (H + 1) #[.int .i64 0, .int .i64 0, .slice none 0 0]) (H + 2) _ #[.int .i64 F0, .int .i64 F1] _ _ b2)
  have HEz := Lib.hid (ext_onlyC (ext_onlyC (HEy.out.trans G_) on1 HwH.out.1) on2 HwH.out.2)
  generalize ((U.drew.setRow (H + 1) #[.int .i64 0, .int .i64 0, .slice none 0 0]).setRow (H + 2) #[.int .i64 F0, .int .i64 F1]) = WF at *
  clear on1 on2 b2 HSj HSl f0 f1 f2 u0 u1 d0
  go_wp2_with fail
  refine bodyPost_ret (v := .tuple #[.agg #[.int .i64 0, .int .i64 0, .slice none 0 0], .agg #[.int .i64 F0, .int .i64 F1]]) ?_ rfl ⟨rfl, HEz.out⟩
  exact results_two2 rfl _ _ (H + 1) (H + 2) _ _ _ _ _ _ _ _ rfl Hr1.out Tryd.underlying27 rfl cic_info rfl Hr2.out Tryd.underlying29 rfl ftc_info
/-- What Encoder answers of a code without a fault. -/
def EnR (n : Nat) (gens : List (List UInt8)) (w : World) (e : Ending) (w' : World) : Prop := ∃ (a : Option Addr) (m c : Nat), e = .returned (.tuple #[.agg #[.int .i64 (n : Int), .int .i64 0, .slice a m c], .agg #[.int .i64 0, .int .i64 0]]) ∧ m ≤ c ∧ c ≤ 9223372036854775807 ∧ OpsAt w' a m (invO (wayC n gens)) ∧ Ext w w'

set_option maxRecDepth 100000 in
set_option maxHeartbeats 8000000 in
theorem Encoder_good (N : Int) (gens : List (List UInt8)) (ao : Option Addr) (k c : Nat) (w : World) (hG : StrsAt w ao k gens) (hT : ∀ T ∈ gens, T.length ≤ 9223372036854775807) (hk9 : k ≤ 9223372036854775806) (hz : (ccF N gens).1 = 0) (hS : Shp w) :
    Calls Tryd.prog 4 #[.agg #[.int .i64 N, .slice ao k c]] w fun e w' => EnR N.toNat gens w e w' := by
  obtain ⟨H, hH⟩ : ∃ H, w.heap.size = H := ⟨_, rfl⟩
  obtain ⟨W0, hW0⟩ : ∃ W0, ((w.alloc (.cells #[.int .i64 N, .slice ao k c] 24)).alloc (.cells #[.int .i64 0, .int .i64 0, .slice none 0 0] 27)).alloc (.cells #[.int .i64 0, .int .i64 0] 29) = W0 := ⟨_, rfl⟩
  have E0 : Ext w W0 := by rw [← hW0]; exact ((ext_al w _).trans (ext_al _ _)).trans (ext_al _ _)
  have C0 : CoB W0 H N ao k c := by rw [← hW0, ← hH]; exact ((CoB.new w _ _ _ _).ext (ext_al _ _)).ext (ext_al _ _)
  have s1 : (w.alloc (.cells #[.int .i64 N, .slice ao k c] 24)).heap.size = H + 1 := by rw [← hH]; simp
  have s2 : ((w.alloc (.cells #[.int .i64 N, .slice ao k c] 24)).alloc (.cells #[.int .i64 0, .int .i64 0, .slice none 0 0] 27)).heap.size = H + 2 := by rw [World.size_alloc, s1]
  have R0 : CiB W0 (H + 1) 0 0 none 0 0 := by rw [← hW0, ← s1]; exact CiB.ext ⟨heap_alloc_new _ _⟩ (ext_al _ _)
  have bF : FtB W0 (H + 2) 0 0 := ⟨by rw [← hW0, ← s2]; exact heap_alloc_new _ _⟩
  have HRd := Lib.hid (read_any N gens ao k c W0 (hG.ext E0) hT hk9)
  unfold RdP at HRd
  rw [rd_cc] at HRd
  obtain ⟨F, hF⟩ : ∃ F, ccF N gens = F := ⟨_, rfl⟩
  obtain ⟨F0, F1⟩ := F
  have Hcc := Lib.hid hF; have HSh := Lib.hid (hS.ext E0)
  have Hlk := Lib.hid (show gens.length = k from hG.1)
  rw [hF] at HRd hz
  simp only at HRd hz
  have HE0 := Lib.hid E0; have HFt := Lib.hid bF; have HRt := Lib.hid R0; have HC := Lib.hid C0; have HW0 := Lib.hid hW0; have HH := Lib.hid hH; have Hz := Lib.hid hz
  have HwH := Lib.hid (show w.heap.size ≤ H + 1 ∧ w.heap.size ≤ H + 2 by omega)
  have v0 := C0.x0; have v1 := C0.x1
  clear hG hT hk9 hS hH hW0 E0 C0 bF R0 hF s1 s2 hz
  go_enter Tryd.func4, Tryd.ntmps4
  go_upto_region 1 with fail
  rw [HW0.out, HH.out]
  go_wp2_with fail
  refine HRd.out.mono ?_
  rintro e w1 ⟨N', a, n, c', mp, rfl, hx1, hrd⟩
  obtain ⟨U, hU⟩ : ∃ U, (w1.alloc (.cells #[.int .i64 N', .slice a n c', .map mp] 44)).alloc (.cells #[.int .i64 F0, .int .i64 F1] 29) = U := ⟨_, rfl⟩
  obtain ⟨K, hK⟩ : ∃ K, w1.heap.size = K := ⟨_, rfl⟩
  have E1U : Ext w1 U := by rw [← hU]; exact (ext_al _ _).trans (ext_al _ _)
  have EU : Ext W0 U := hx1.trans E1U
  have fU : FrB U K N' a n c' mp := by rw [← hU, ← hK]; exact (FrB.new _ _ _ _ _ _).ext (ext_al _ _)
  have bU : FtB U (K + 1) F0 F1 := ⟨by
    have := heap_alloc_new (w1.alloc (.cells #[.int .i64 N', .slice a n c', .map mp] 44)) (.cells #[.int .i64 F0, .int .i64 F1] 29)
    rw [← hU, ← hK]
    simpa using this⟩
  have hKH : H + 2 < K := by rw [← hK]; exact Nat.lt_of_lt_of_le HFt.out.lt hx1.size
  have HKH := Lib.hid hKH
  have HU := Lib.hid hU; have HK := Lib.hid hK; have HEU := Lib.hid EU; have Hrd := Lib.hid hrd; have HE1U := Lib.hid E1U
  have e1 : ¬ K = H := by omega
  have e2 : ¬ H = K := by omega
  have e3 : ¬ K = H + 1 := by omega
  have e4 : ¬ H + 1 = K := by omega
  have e5 : ¬ K = H + 2 := by omega
  have e6 : ¬ H + 2 = K := by omega
  clear hKH
  have u0 := bU.x0; have u1 := bU.x1; have f0 := fU.x0; have f1 := fU.x1; have f2 := fU.x2
  have d0 := (HC.out.ext EU).x0
  have Hbz := Lib.hid (HFt.out.ext EU); have Hrz := Lib.hid (HRt.out.ext EU)
  have HEy := Lib.hid (HE0.out.trans EU)
  have HbU := Lib.hid bU; have HfU := Lib.hid fU
  clear hx1 hU hK EU bU fU v0 v1 HRd hrd E1U
  go_upto_region 2 with fail
  rw [HU.out, HK.out]
  clear HU HK
  obtain ⟨hN1, hN12, hkN, hall⟩ := cc_zero (N := N) (gens := gens) (by rw [Hcc.out]; exact Hz.out)
  obtain ⟨nn, hnn⟩ : ∃ nn : Nat, N = (nn : Int) := ⟨N.toNat, by omega⟩
  subst hnn
  rw [Int.toNat_natCast] at Hrd
  have HN := Lib.hid (show 1 ≤ nn ∧ nn ≤ 12 ∧ gens.length ≤ nn by omega)
  have hcz : (ccF (nn : Int) gens).1 = 0 := by rw [Hcc.out]; exact Hz.out
  have hG := good_code hcz
  rw [Int.toNat_natCast] at hG
  have hwok := wayC_ok hcz
  have hwl : (wayC nn gens).length ≤ 4096 := by
    have h2 := Nat.mul_le_mul (show gens.length ≤ 12 by omega) (show 3 * nn + 2 ≤ 38 by omega)
    omega
  have hpur := way_pur (by omega) HN.out.2.1 hwok.1 hwl
  obtain ⟨hN', hps, hac, hcm, B, keys, hmp, hGr, hSm⟩ := Hrd.out Hz.out
  subst hN'
  have Hps := Lib.hid (hps.ext HE1U.out); have HGd := Lib.hid hG; have Hpur := Lib.hid hpur
  clear hN1 hN12 hkN hall hcz hG hwok hwl hpur hps hac hcm hGr hSm hmp Hrd
  have hcb := bt' Hz.out
  have HSj := Lib.hid (fun (w' : World) (hx : Ext U w') => (show w'.cell? ⟨H, 0, none⟩ = some (.int .i64 (nn : Int)) ∧ w'.cell? ⟨K, 0, none⟩ = some (.int .i64 (nn : Int)) ∧ w'.cell? ⟨K, 1, none⟩ = some (.slice a n c') ∧ w'.cell? ⟨K, 2, none⟩ = some (.map mp) ∧ w'.cell? ⟨K + 1, 0, none⟩ = some (.int .i64 F0) ∧ w'.cell? ⟨K + 1, 1, none⟩ = some (.int .i64 F1) from ⟨cell_ext d0 hx, cell_ext f0 hx, cell_ext f1 hx, cell_ext f2 hx, cell_ext u0 hx, cell_ext u1 hx⟩))
  have HSl := Lib.hid (fun (wy : World) (w' : World) (hy : Ext U wy) (hO : Only (H + 1) wy w') => (show w'.cell? ⟨H, 0, none⟩ = some (.int .i64 (nn : Int)) ∧ w'.cell? ⟨K, 0, none⟩ = some (.int .i64 (nn : Int)) ∧ w'.cell? ⟨K, 1, none⟩ = some (.slice a n c') ∧ w'.cell? ⟨K, 2, none⟩ = some (.map mp) ∧ w'.cell? ⟨K + 1, 0, none⟩ = some (.int .i64 F0) ∧ w'.cell? ⟨K + 1, 1, none⟩ = some (.int .i64 F1) from (by
    have hc : ∀ g o', g ≠ H + 1 → w'.cell? ⟨g, o', none⟩ = wy.cell? ⟨g, o', none⟩ := fun g o' hg => World.cell?_of_block (a := ⟨g, o', none⟩) (hO.block g hg)
    have hK := HKH.out
    exact ⟨(hc H 0 (by omega)).trans (cell_ext d0 hy), (hc K 0 e3).trans (cell_ext f0 hy), (hc K 1 e3).trans (cell_ext f1 hy), (hc K 2 e3).trans (cell_ext f2 hy), (hc (K + 1) 0 (by omega)).trans (cell_ext u0 hy), (hc (K + 1) 1 (by omega)).trans (cell_ext u1 hy)⟩)))
  go_upto_region 4 with fail
  have G_ : Ext U U.drew := Below.drew (Ext.refl _)
  refine wp_region_K 9 (fun w' => w'.cell? ⟨H, 0, none⟩ = some (.int .i64 (nn : Int)) ∧ w'.cell? ⟨K, 0, none⟩ = some (.int .i64 (nn : Int)) ∧ w'.cell? ⟨K, 1, none⟩ = some (.slice a n c') ∧ w'.cell? ⟨K, 2, none⟩ = some (.map mp) ∧ w'.cell? ⟨K + 1, 0, none⟩ = some (.int .i64 F0) ∧ w'.cell? ⟨K + 1, 1, none⟩ = some (.int .i64 F1)) (by kernel_rfl) ?_
  show anyK _ _ _ _ _ _ 10 #[false, false, false, false, false, false, false, false, false, false] _ _
  refine anyK_take (i := 0) (v := ?_) rfl (by kernel_rfl) (by kernel_rfl) (by kernel_rfl) (N := 10) (by kernel_rfl) (by kernel_rfl) (by kernel_rfl) (fun _ _ _ h => h) (Or.inl ⟨by rfl, ?_⟩) (HSj.out _ G_) ?_
  rotate_left 1
  · intro w hSw
    go_simp
    try with_reducible rfl
  show anyK _ _ _ _ _ _ _ _ (Act.put _ (some 16) _) _
  simp only [Act.put, List.setIfInBounds_toArray, List.set_cons_zero, List.set_cons_succ]
  refine anyK_take (i := 1) (v := ?_) rfl (by kernel_rfl) (by kernel_rfl) (by kernel_rfl) (N := 10) (by kernel_rfl) (by kernel_rfl) (by kernel_rfl) (fun _ _ _ h => h) (Or.inl ⟨by rfl, ?_⟩) (HSj.out _ G_) ?_
  rotate_left 1
  · intro w hSw
    go_simp
    try with_reducible rfl
  show anyK _ _ _ _ _ _ _ _ (Act.put _ (some 17) _) _
  simp only [Act.put, List.setIfInBounds_toArray, List.set_cons_zero, List.set_cons_succ]
  refine anyK_take (i := 2) (v := ?_) rfl (by kernel_rfl) (by kernel_rfl) (by kernel_rfl) (N := 10) (by kernel_rfl) (by kernel_rfl) (by kernel_rfl) (fun _ _ _ h => h) (Or.inl ⟨by rfl, ?_⟩) (HSj.out _ G_) ?_
  rotate_left 1
  · intro w hSw
    go_simp
    try with_reducible rfl
  show anyK _ _ _ _ _ _ _ _ (Act.put _ (some 18) _) _
  simp only [Act.put, List.setIfInBounds_toArray, List.set_cons_zero, List.set_cons_succ]
  have HWh := Lib.hid (wayHome_any nn HN.out.2.1 (psL nn gens) a n c' mp U.drew (Hps.out.ext G_) HGd.out)
  rw [show wayL nn ((psL nn gens).map toQ) n = wayC nn gens by unfold wayC; rw [← Hps.out.1]; unfold psL; rw [List.length_map]] at HWh
  refine anyK_one (i := 3) (by kernel_rfl) rfl (fun Kk hKk => ?_)
  go_simp
  (go_at_call 14; refine HWh.out.mono ?_; rintro e w2 ⟨vo, base, rfl, x2, hos⟩)
  have E2 : Ext U w2 := G_.trans x2
  obtain ⟨a2, c2, rfl, hmc, hcm2, hoa⟩ := hos.at
  obtain ⟨m2, hm2⟩ : ∃ m, (wayC nn gens).length = m := ⟨_, rfl⟩
  rw [hm2] at hmc hoa ⊢
  have Hoa := Lib.hid hoa; have Hmc := Lib.hid (And.intro hmc hcm2); have Hm2 := Lib.hid hm2
  clear hos hmc hcm2 hoa hm2 x2 HWh
  go_wp2_with fail
  refine hKk.out _ _ (fun _ => HSj.out _ E2) ?_
  clear hKk Kk
  simp only [List.setIfInBounds_toArray, List.set_cons_zero, List.set_cons_succ]
  refine anyK_take (i := 4) (v := ?_) rfl (by kernel_rfl) (by kernel_rfl) (by kernel_rfl) (N := 10) (by kernel_rfl) (by kernel_rfl) (by kernel_rfl) (fun _ _ _ h => h) (Or.inl ⟨by rfl, ?_⟩) (HSj.out _ E2) ?_
  rotate_left 1
  · intro w hSw
    go_simp
    try with_reducible rfl
  show anyK _ _ _ _ _ _ _ _ (Act.put _ (some 20) _) _
  simp only [Act.put, List.setIfInBounds_toArray, List.set_cons_zero, List.set_cons_succ]
  have HIn := Lib.hid (Inverse_N ⟨(nn : Int), 0, wayC nn gens⟩ a2 m2 c2 w2 Hoa.out Hmc.out.1 (by have := Hmc.out.2; unfold maxLen at this; omega) (HSh.out.ext (HEU.out.trans E2)) (by rw [Hpur.out]))
  refine anyK_one (i := 5) (by kernel_rfl) rfl (fun Kk hKk => ?_)
  go_simp
  (go_at_call 13; refine HIn.out.mono ?_; rintro e w3 ⟨⟨a3, c3, rfl, hon⟩, x3⟩)
  have E3 : Ext U w3 := E2.trans x3
  have Hon := Lib.hid hon
  clear hon x3 HIn E2 G_
  go_wp2_with fail
  refine hKk.out _ _ (fun _ => HSj.out _ E3) ?_
  clear hKk Kk
  simp only [List.setIfInBounds_toArray, List.set_cons_zero, List.set_cons_succ]
  refine anyK_take (i := 6) (v := ?_) rfl (by kernel_rfl) (by kernel_rfl) (by kernel_rfl) (N := 10) (by kernel_rfl) (by kernel_rfl) (by kernel_rfl) (fun _ _ _ h => h) (Or.inl ⟨by rfl, ?_⟩) (HSj.out _ E3) ?_
  rotate_left 1
  · intro w hSw
    go_simp
    try with_reducible rfl
  show anyK _ _ _ _ _ _ _ _ (Act.put _ (some 22) _) _
  simp only [Act.put, List.setIfInBounds_toArray, List.set_cons_zero, List.set_cons_succ]
  refine anyK_take (i := 7) (v := ?_) rfl (by kernel_rfl) (by kernel_rfl) (by kernel_rfl) (N := 10) (by kernel_rfl) (by kernel_rfl) (by kernel_rfl) (fun _ _ _ h => h) (Or.inl ⟨by rfl, ?_⟩) (HSj.out _ E3) ?_
  rotate_left 1
  · intro w hSw
    go_simp
    try with_reducible rfl
  show anyK _ _ _ _ _ _ _ _ (Act.put _ (some 23) _) _
  simp only [Act.put, List.setIfInBounds_toArray, List.set_cons_zero, List.set_cons_succ]
  refine anyK_one (i := 8) (by kernel_rfl) rfl (fun Kk hKk => ?_)
  refine stepK_storeRowC rfl rfl 27 _ _ rfl (H + 1) #[.int .i64 (nn : Int), .int .i64 0, .slice a3 m2 c3] rfl rfl 27 _ (Hrz.out.ext E3).row cic_info rfl (by kernel_rfl) ?_
  have on1 := setRow_onlyC w3 (H + 1) #[.int .i64 (nn : Int), .int .i64 0, .slice a3 m2 c3]
  refine hKk.out _ _ (fun _ => HSl.out _ _ E3 on1) ?_
  clear hKk Kk
  simp only [List.setIfInBounds_toArray, List.set_cons_zero, List.set_cons_succ]
  have b2 := (on1.block (H + 2) (by omega)).trans (Hbz.out.ext E3).row
  refine anyK_one (i := 9) (by kernel_rfl) rfl (fun Kk hKk => ?_)
  refine stepK_storeRowC rfl rfl 29 _ _ rfl (H + 2) #[.int .i64 0, .int .i64 0] rfl rfl 29 _ b2 ftc_info rfl (by kernel_rfl) ?_
  refine hKk.out _ _ (fun h => Bool.noConfusion (show true = false from h)) ?_
  clear hKk Kk
  simp only [List.setIfInBounds_toArray, List.set_cons_zero, List.set_cons_succ]
  refine anyK_done (by kernel_rfl) ?_ _
  have on2 := setRow_onlyC (w3.setRow (H + 1) #[.int .i64 (nn : Int), .int .i64 0, .slice a3 m2 c3]) (H + 2) #[.int .i64 0, .int .i64 0]
  have Hr1 := Lib.hid ((on2.block (H + 1) (by omega)).trans (setRow_heap w3 (H + 1) _ #[.int .i64 (nn : Int), .int .i64 0, .slice a3 m2 c3] _ _ (Hrz.out.ext E3).row))
  have Hr2 := Lib.hid (setRow_heap (w3.setRow (H + 1) #[.int .i64 (nn : Int), .int .i64 0, .slice a3 m2 c3]) (H + 2) _ #[.int .i64 0, .int .i64 0] _ _ b2)
  have HEz := Lib.hid (ext_onlyC (ext_onlyC (HEy.out.trans E3) on1 HwH.out.1) on2 HwH.out.2)
  have Hfn := Lib.hid ((Hon.out.far (Hrz.out.ext E3).row (by decide) (by decide) on1).far b2 (by decide) (by decide) on2)
  generalize ((w3.setRow (H + 1) #[.int .i64 (nn : Int), .int .i64 0, .slice a3 m2 c3]).setRow (H + 2) #[.int .i64 0, .int .i64 0]) = WF at *
  clear on1 on2 b2 HSj HSl f0 f1 f2 u0 u1 d0
  go_wp2_with fail
  obtain ⟨_, q2, q3, q4⟩ := Hfn.out.at
  refine bodyPost_ret (v := .tuple #[.agg #[.int .i64 (nn : Int), .int .i64 0, .slice a3 m2 c3], .agg #[.int .i64 0, .int .i64 0]]) ?_ rfl ⟨a3, m2, c3, rfl, q2, q3, q4, HEz.out⟩
  exact results_two2 rfl _ _ (H + 1) (H + 2) _ _ _ _ _ _ _ _ rfl Hr1.out Tryd.underlying27 rfl cic_info rfl Hr2.out Tryd.underlying29 rfl ftc_info
end Go.Proofs.YtbmjobpobjfjeaaDoor
