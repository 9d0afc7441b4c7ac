/-
  A list of the reference's numbers of circuits in memory: a state. Loads and stores of one of them. The reference: bits of basis states; a basis state; what an outcome leaves. A gate's work as the reference does it: basis state by basis state, in plain numbers. Lists: what stands in one; conditions; controls. (The program's, and the reference's member.) Operations in memory; controls; the first fault of an operation, as the program finds it. Steps of a walk over a state: stores and loads of one amplitude; bits of places. The program: a set of qubits as a number. The reference: a number over the root of two (RHalf); how deep it is (RDepth). Amid a gate's work: the state, what is laid so far, the operation's variable.
-/
import Derived.Test.YtlmfhopifggeaaaDoorProg
import Derived.Test.YtlmfhopifggeaaaDoorRows
import Derived.BigQuiet
import Derived.Deep.AppendLies
import Derived.Deep.Cut
import Derived.Deep.CutRange
import Derived.Deep.LoopGhost
import Derived.Deep.MidRow
import Derived.Deep.QuietTactic
import Derived.Deep.RegionHeld3
import Derived.Ground.Names2Prog
import Derived.Ground.SlgnProg
import Derived.Laws.Bits64b
import Derived.Laws.CopyOwn
import Derived.Laws.IdiomCopy
import Derived.Laws.ResultCell
import Derived.Laws.Rows
import Derived.Lib.BitFns
import Derived.Lib.Hide
import Derived.Lib.ItoaNum
import Derived.Lib.Strings
import Derived.Lib.TrailingZeros
import Derived.OrdersHeld
import Derived.OwnWalk
import Derived.ProofKit
import Derived.RegionTactic
import Derived.Shelf.Slices.Clone
import Derived.Shelf.SlicesE.Clone
import Derived.WalkKit
import Derived.WalkLawsBesides
import Derived.WalkSpells
import Derived.Test.YtlmfhopifggeaaaDoorS00Mem
import Derived.Test.YtlmfhopifggeaaaDoorShelf
import Derived.Test.YtlmfhopifggeaaaDoorS02ZBq
import Derived.Test.YtlmfhopifggeaaaDoorS03ZKq
import Derived.Test.YtlmfhopifggeaaaDoorS04Udq
import Derived.Test.YtlmfhopifggeaaaDoorS05Wf
namespace Go.Proofs.YtlmfhopifggeaaaDoor
variable {Qc : Nat → Prop}
open Go.RowKit

theorem setCells_row {b : Nat} {t : TypeId} : ∀ (vs : List Value) (o : Nat) (cs : Array Value) (w : World), w.heap[b]? = some (.cells cs t (0, 0)) → o + vs.length ≤ cs.size →
    ∃ cs', (w.setCells b o vs).heap[b]? = some (.cells cs' t (0, 0)) ∧ cs'.size = cs.size ∧ (∀ i, (i < o ∨ o + vs.length ≤ i) → cs'[i]? = cs[i]?) ∧ (∀ j, j < vs.length → cs'[o + j]? = vs[j]?) ∧ Only b w (w.setCells b o vs)
  | [], o, cs, w, h, _ => ⟨cs, h, rfl, fun _ _ => rfl, fun j hj => by simp at hj, Only.refl _ _⟩
  | v :: r, o, cs, w, h, hl => by
    have h1 := heap_setCell_same w b o _ _ v h
    obtain ⟨cs', g1, g2, g3, g4, g5⟩ := setCells_row r (o + 1) (cs.setIfInBounds o v) (w.setCell ⟨b, o, none⟩ v) h1 (by simp at hl ⊢; omega)
    refine ⟨cs', g1, by rw [g2]; simp, fun i hi => ?_, fun j hj => ?_, ?_⟩
    · rw [g3 i (by simp at hi ⊢; omega), Array.getElem?_setIfInBounds_ne (by simp at hi; omega)]
    · cases j with
      | zero =>
        rw [g3 (o + 0) (Or.inl (by omega)), Nat.add_zero, Array.getElem?_setIfInBounds_self_of_lt (by simp at hl; omega)]
        rfl
      | succ j =>
        have := g4 j (by simpa using hj)
        rw [show o + (j + 1) = o + 1 + j by omega, this]
        rfl
    · have k := (Only.refl b w).setCell o v
      exact ⟨g5.os.trans k.os, g5.tape.trans k.tape, g5.output.trans k.output, g5.size.trans k.size, fun i hi => (g5.block i hi).trans (k.block i hi)⟩

/-- Amplitudes of n basis states: block b, one behind the other. -/
structure RsAt (Qc : Nat → Prop) (w : World) (b n : Nat) (s : Nat → Nm) (P E : Nat) : Prop where
  row : ∃ cs, w.heap[b]? = some (.cells cs 59 (0, 0)) ∧ cs.size = n * 17 ∧ ∀ x, x < n → ∃ c : Array Value, (∀ j, j < 17 → cs[x * 17 + j]? = c[j]?) ∧ RmA Qc w c (s x) P E
theorem RsAt.lt {w : World} {b n : Nat} {s : Nat → Nm} {P E : Nat} (h : RsAt Qc w b n s P E) : b < w.heap.size := by
  obtain ⟨cs, h1, _⟩ := h.row
  exact (Array.getElem?_eq_some_iff.1 h1).1
theorem RsAt.ext {w w' : World} {b n : Nat} {s : Nat → Nm} {P E : Nat} (h : RsAt Qc w b n s P E) (k : Ext w w') : RsAt Qc w' b n s P E := by
  have hl := h.lt
  obtain ⟨cs, h1, h2, h3⟩ := h.row
  refine ⟨cs, (k.block _ hl).trans h1, h2, fun x hx => ?_⟩
  obtain ⟨c, g1, g2⟩ := h3 x hx
  exact ⟨c, g1, g2.ext k⟩
theorem RsAt.no {w : World} {b n : Nat} {s : Nat → Nm} {P E : Nat} (h : RsAt Qc w b n s P E) : NoI w b := by
  obtain ⟨cs, h1, _⟩ := h.row
  exact ⟨cs, _, _, h1, by decide⟩
theorem RmA.chz {w w' : World} {cs : Array Value} {x : Nm} {P E g : Nat} (h : RmA Qc w cs x P E) (k : ChZ g w w') (hg : NoI w g) : RmA Qc w' cs x P E := ⟨h.anti, h.low, h.abs, h.down, h.val.chz k hg⟩
theorem RsAt.chz {w w' : World} {b n g : Nat} {s : Nat → Nm} {P E : Nat} (h : RsAt Qc w b n s P E) (k : ChZ g w w') (hg : NoI w g) (hne : b ≠ g) : RsAt Qc w' b n s P E := by
  obtain ⟨cs, h1, h2, h3⟩ := h.row
  refine ⟨cs, k.row h1 hne, h2, fun x hx => ?_⟩
  obtain ⟨c, g1, g2⟩ := h3 x hx
  exact ⟨c, g1, g2.chz k hg⟩
theorem RsAt.congr {w : World} {b n : Nat} {s s' : Nat → Nm} {P E : Nat} (h : RsAt Qc w b n s P E) (k : ∀ x, x < n → s x = s' x) : RsAt Qc w b n s' P E := by
  obtain ⟨cs, h1, h2, h3⟩ := h.row
  refine ⟨cs, h1, h2, fun x hx => ?_⟩
  obtain ⟨c, g1, g2⟩ := h3 x hx
  exact ⟨c, g1, k x hx ▸ g2⟩
/-- One of them: its cells. -/
theorem RsAt.get {w : World} {b n : Nat} {s : Nat → Nm} {P E : Nat} (h : RsAt Qc w b n s P E) {x : Nat} (hx : x < n) : ∃ c : Array Value, w.rangeAt b (x * 17) c.toList ∧ RmA Qc w c (s x) P E ∧ w.there b (x * 17) 17 := by
  obtain ⟨cs, h1, h2, h3⟩ := h.row
  obtain ⟨c, g1, g2⟩ := h3 x hx
  have hs := g2.size
  have hb : x * 17 + 17 ≤ cs.size := by
    rw [h2, ← Nat.succ_mul]; exact Nat.mul_le_mul_right _ hx
  refine ⟨c, ?_, g2, ?_⟩
  · intro j v hv
    rw [cell_of_row w b _ cs _ (0, 0) h1]
    have hj : j < 17 := by
      have := (List.getElem?_eq_some_iff.1 hv).1
      simp at this; omega
    rw [g1 j hj]
    simpa using hv
  · intro j hj
    refine ⟨?_, frozen_of_row w b _ _ _ h1⟩
    rw [cell_of_row w b _ cs _ (0, 0) h1, Array.getElem?_eq_getElem (by omega)]
    rfl
/-- One of them is written. -/
theorem RsAt.set {w : World} {b n : Nat} {s : Nat → Nm} {P E : Nat} (h : RsAt Qc w b n s P E) {x : Nat} (hx : x < n) {c : Array Value} {z : Nm} (hz : RmA Qc w c z P E) :
    RsAt Qc (w.setCells b (x * 17) c.toList) b n (fun y => if y = x then z else s y) P E ∧ ChZ b w (w.setCells b (x * 17) c.toList) := by
  have hno := h.no
  obtain ⟨cs, h1, h2, h3⟩ := h.row
  have hs := hz.size
  have hb : x * 17 + 17 ≤ cs.size := by
    rw [h2, ← Nat.succ_mul]; exact Nat.mul_le_mul_right _ hx
  have hcl : c.toList.length = 17 := by simpa using hs
  obtain ⟨cs', g1, g2, g3, g4, g5⟩ := setCells_row c.toList (x * 17) cs w h1 (by rw [hcl]; exact hb)
  have hch := ChZ.of_only g5
  refine ⟨⟨cs', g1, g2.trans h2, fun y hy => ?_⟩, hch⟩
  by_cases e : y = x
  · subst e
    refine ⟨c, fun j hj => ?_, by rw [if_pos rfl]; exact hz.chz hch hno⟩
    rw [g4 j (by rw [hcl]; exact hj)]
    simp
  · obtain ⟨c', k1, k2⟩ := h3 y hy
    refine ⟨c', fun j hj => ?_, by rw [if_neg e]; exact k2.chz hch hno⟩
    rw [g3 _ (by
      rw [hcl]
      by_cases hlt : y < x
      · left
        have := Nat.mul_le_mul_right 17 (show y + 1 ≤ x from hlt)
        rw [Nat.succ_mul] at this
        omega
      · right
        have := Nat.mul_le_mul_right 17 (show x + 1 ≤ y by omega)
        rw [Nat.succ_mul] at this
        omega)]
    exact k1 j hj
/-- New ones are nought. -/
theorem RsAt.new {w : World} {b n : Nat} (P E : Nat) (cs : Array Value) (h : w.heap[b]? = some (.cells cs 59 (0, 0))) (hs : cs.size = n * 17) (hz : ∀ x, x < n → ∀ j, j < 17 → cs[x * 17 + j]? = zeroR[j]?) : RsAt Qc w b n (fun _ => nZ) P E :=
  ⟨cs, h, hs, fun x hx => ⟨zeroR, hz x hx, ⟨anti_nZ, low_nZ, fun _ => Nat.pow_pos (by decide), Nat.zero_le _, zcs_zero (Qc := Qc) w⟩⟩⟩
end Go.Proofs.YtlmfhopifggeaaaDoor
namespace Go.Proofs.YtlmfhopifggeaaaDoor
variable {Qc : Nat → Prop}
open Go.RowKit

theorem and1 (k : Int) : bits .and .i64 k 1 = k % 2 := by
  show IntKind.i64.wrap ((BitVec.ofInt 64 k &&& BitVec.ofInt 64 1).toNat : Int) = _
  have h1 := ofInt_toNat k
  have h2 : (BitVec.ofInt 64 1).toNat = 2 ^ 1 - 1 := by decide
  rw [BitVec.toNat_and, h2, Nat.and_two_pow_sub_one_eq_mod, IntKind.wrap_i64]
  omega
theorem shr1 (x q : Nat) : bits .and .i64 ((x : Int) / 2 ^ q) 1 = if x.testBit q then 1 else 0 := by
  rw [and1]
  have h1 : (x : Int) / 2 ^ q = ((x / 2 ^ q : Nat) : Int) := by
    rw [Int.natCast_ediv, Int.natCast_pow]; rfl
  have h2 : x.testBit q = decide (x / 2 ^ q % 2 = 1) := by
    rw [Nat.testBit_eq_decide_div_mod_eq]
  rw [h1, h2]
  by_cases h : x / 2 ^ q % 2 = 1
  · rw [decide_eq_true h, if_pos rfl]; omega
  · rw [decide_eq_false h]; simp; omega

set_option maxRecDepth 100000 in
theorem bitOf_st (x : Nat) (q : Int) (w : World) (h0 : 0 ≤ q) (h6 : q ≤ 60) :
    Calls Tryd.prog 61 #[.int .i64 (x : Int), .int .i64 q] w fun e w' => e = .returned (.int .i64 (if bt x q then 1 else 0)) ∧ w' = w := by
  obtain ⟨m, rfl⟩ : ∃ m : Nat, q = (m : Int) := ⟨q.toNat, by omega⟩
  have h1 : (0 : Int) ≤ (m : Int) := by omega
  obtain ⟨r, hr⟩ : ∃ r : Int, (if bt x (m : Int) then (1 : Int) else 0) = r := ⟨_, rfl⟩
  have hb : bits .and .i64 ((x : Int) / 2 ^ m) 1 = r := by rw [← hr, shr1]; rfl
  have hm : min m 64 = m := by omega
  rw [hr]
  clear hr h0 h6
  go_enter Tryd.func61, Tryd.ntmps61
  go_wp2
  go_ret
  exact ⟨rfl, rfl⟩

set_option maxRecDepth 100000 in
set_option maxHeartbeats 2000000 in
theorem allOne_any (x : Nat) (ao : Option Addr) (n cp : Nat) (l : List Int) (w : World) (h : IntsAt w ao n l) (hn : n ≤ cp) (hcp : cp ≤ 9223372036854775807) (h0 : ∀ c ∈ l, 0 ≤ c ∧ c ≤ 60) :
    Calls Tryd.prog 59 #[.int .i64 (x : Int), .slice ao n cp] w fun e w' => e = .returned (.bool (ons x l)) ∧ w' = w := by
  have hlen := h.1
  obtain ⟨B, hB⟩ : ∃ B, ons x l = B := ⟨_, rfl⟩
  rw [hB]
  have HB := Lib.hid hB; have Hh := Lib.hid h; have H0 := Lib.hid h0; have Hlen := Lib.hid hlen
  clear h hB h0 hlen
  go_enter Tryd.func59, Tryd.ntmps59
  go_wp2_with fail
  go_loopg [5] n (fun kk s5 wr => ∃ i : Nat, s5 = .int .i64 (i : Int) ∧ i ≤ n ∧ n - i = kk ∧ (∀ t, t < i → bt x (l.getD t 0) = true) ∧ wr = w)
  case atStart => exact ⟨0, rfl, by omega, by omega, fun t ht => by omega, rfl⟩
  case round =>
    obtain ⟨i, rfl, hi, hk, hal, rfl⟩ := hrel
    have Hal := Lib.hid hal; have Hk := Lib.hid hk
    clear hal hk
    by_cases hin : i = n
    · have HBt := Lib.hid (show true = B by
        rw [← HB.out]
        unfold ons
        symm
        rw [List.all_eq_true]
        intro c hc
        obtain ⟨t, ht, e⟩ := List.getElem_of_mem hc
        have h2 := Hal.out t (by have := Hlen.out; omega)
        rw [List.getD_eq_getElem?_getD, List.getElem?_eq_getElem ht, e] at h2
        exact h2)
      have q1 : ¬ (i : Int) < (n : Int) := by omega
      clear hin hi
      go_wp2_with fail
      go_ret
      exact ⟨congrArg (fun b => Ending.returned (Value.bool b)) HBt.out, rfl⟩
    have hlt : i < n := by omega
    have q1 : (i : Int) < (n : Int) := by omega
    have q0 : (0 : Int) ≤ (i : Int) := by omega
    have wk : IntKind.i64.wrap ((i : Int) + 1) = ((i + 1 : Nat) : Int) := by rw [IntKind.wrap_i64]; omega
    obtain ⟨b, o, rfl, hb, hc⟩ := Hh.out.2.resolve_left (by omega)
    have y0 := hc i hlt
    obtain ⟨c, hcc⟩ : ∃ c, l.getD i 0 = c := ⟨_, rfl⟩
    rw [hcc] at y0
    have hc0 : 0 ≤ c ∧ c ≤ 60 := by
      have hlt' : i < l.length := by have := Hlen.out; omega
      rw [← hcc, List.getD_eq_getElem?_getD, List.getElem?_eq_getElem hlt']
      exact H0.out _ (List.getElem_mem hlt')
    have Hbi := Lib.hid (bitOf_st x c wr hc0.1 hc0.2)
    have Hcc := Lib.hid hcc; have Hlt := Lib.hid hlt
    clear hcc hc0 hb hc hin hi
    cases hbt : bt x c with
    | true =>
      rw [hbt] at Hbi
      have Hbt := Lib.hid hbt
      clear hbt
      go_wp2_with fail
      refine Hbi.out.mono ?_
      rintro e w2 ⟨rfl, rfl⟩
      clear y0 Hbi
      go_wp2_with fail
      go_roundg (n - (i + 1))
      case measure => have := Hk.out; have := Hlt.out; omega
      case rel => exact ⟨i + 1, rfl, Hlt.out, rfl, fun t ht => by
        by_cases e : t = i
        · rw [e, Hcc.out]; exact Hbt.out
        · exact Hal.out t (by omega), rfl⟩
    | false =>
      rw [hbt] at Hbi
      have HBf := Lib.hid (show false = B by
        rw [← HB.out]
        unfold ons
        symm
        rw [List.all_eq_false]
        have hlt' : i < l.length := by have := Hlen.out; have := Hlt.out; omega
        refine ⟨l[i], List.getElem_mem hlt', ?_⟩
        have h2 := Hcc.out
        rw [List.getD_eq_getElem?_getD, List.getElem?_eq_getElem hlt'] at h2
        have h3 : l[i] = c := h2
        rw [h3, hbt]; decide)
      clear hbt
      go_wp2_with fail
      refine Hbi.out.mono ?_
      rintro e w2 ⟨rfl, rfl⟩
      clear y0 Hbi
      go_wp2_with fail
      go_ret
      exact ⟨congrArg (fun b => Ending.returned (Value.bool b)) HBf.out, rfl⟩

theorem R_info : (Tryd.prog.info? 59).map (fun i => (i.zero, i.size, i.bytes)) = some (some (.agg zeroR), 17, 264) := by kernel_rfl
/-- 'make([]R, n)'. -/
theorem wpList_make_R (w : World) {ops : Array Oper} {rest : List Oper} {o : Oper} {a : Act} {Q : Exit → Act → World → Prop}
    (hg : o.guard = none) (l c : Operand) (hop : o.op = Op.makeSlice 50 l c) (kl kc : IntKind) (L C : Int) (n : Nat) (hl : a.eval l = .int kl L) (hc : a.eval c = .int kc C) (hL : L = (n : Int)) (hC : C = (n : Int)) (b2 : n ≤ 1048576)
    (hK : ∀ w', (∀ P E, RsAt Qc w' w.heap.size n (fun _ => nZ) P E) → Ext w w' → w.heap.size < w'.heap.size → wpList Tryd.prog ops Q rest (a.put o.dst (.slice (some ⟨w.heap.size, 0, none⟩) n n)) w') :
    wpList Tryd.prog ops Q (o :: rest) a w := by
  obtain ⟨i0, hi, hz0, hz1, hz2⟩ := info_parts R_info
  refine wpList_make_full w hg l c 50 hop w.heap.size 59 i0 (.agg zeroR) 17 Tryd.underlying50 hi hz0 hz1 kl kc L C n hl hc hL hC (by rw [hz2]; omega) (by unfold maxLen; omega) (Nat.le_refl _) ?_
  intro w' hown hgrow
  have key : ∃ cs, w'.heap[w.heap.size]? = some (.cells cs 59 (0, 0)) ∧ cs = madeCells zeroR (n * 17) := by
    obtain ⟨_, h | ⟨g, cap, cur, hv, _, hh, _, _, hsz, ht⟩⟩ := hown
    · simp at h
    · simp only [Value.slice.injEq, Option.some.injEq, Addr.mk.injEq, and_true, true_and] at hv
      obtain ⟨hg, rfl⟩ := hv
      subst hg
      refine ⟨cur, hh, ?_⟩
      apply Array.toList_inj.1
      have e1 : cur.toList.take (n * 17) = cur.toList := List.take_of_length_le (by rw [Array.length_toList, hsz]; exact Nat.le_refl _)
      rw [e1] at ht
      exact ht
  obtain ⟨cs, h1, rfl⟩ := key
  refine hK w' (fun P E => RsAt.new P E _ h1 (size_madeCells _ _) fun x hx j hj => ?_) ((Below.refl _ _).grown hgrow (Nat.le_refl _) (fun k h => by cases h)) (Array.getElem?_eq_some_iff.1 h1).1
  have hlt : x * 17 + j < n * 17 := by
    have := Nat.mul_le_mul_right 17 (show x + 1 ≤ n from hx)
    rw [Nat.succ_mul] at this
    omega
  have hm : (x * 17 + j) % 17 = j := by rw [Nat.add_comm, Nat.add_mul_mod_self_right, Nat.mod_eq_of_lt hj]
  unfold madeCells
  rw [Array.getElem?_map, Array.getElem?_range, if_pos hlt]
  show some (zeroR[(x * 17 + j) % 17]!) = zeroR[j]?
  rw [hm]
  have e : j = 0 ∨ j = 1 ∨ j = 2 ∨ j = 3 ∨ j = 4 ∨ j = 5 ∨ j = 6 ∨ j = 7 ∨ j = 8 ∨ j = 9 ∨ j = 10 ∨ j = 11 ∨ j = 12 ∨ j = 13 ∨ j = 14 ∨ j = 15 ∨ j = 16 := by omega
  rcases e with rfl | rfl | rfl | rfl | rfl | rfl | rfl | rfl | rfl | rfl | rfl | rfl | rfl | rfl | rfl | rfl | rfl <;> rfl

/-- 1 << q. -/
theorem shl1 {q : Nat} (h : q ≤ 40) : wrap64 (2 ^ min q 64) = ((2 ^ q : Nat) : Int) := by
  have h1 : 2 ^ q ≤ 2 ^ 40 := Nat.pow_le_pow_right (by decide) h
  rw [show min q 64 = q by omega]
  have h2 : ((2 : Int) ^ q) = ((2 ^ q : Nat) : Int) := by rw [Int.natCast_pow]; rfl
  rw [h2]
  have h3 : (2 ^ 40 : Nat) = 1099511627776 := by decide
  obtain ⟨m, hm⟩ : ∃ m : Nat, 2 ^ q = m := ⟨_, rfl⟩
  rw [hm] at h1 ⊢
  rw [h3] at h1
  clear hm h2
  unfold wrap64
  omega
/-- The basis state. -/
def bas (x : Nat) : Nat → Nm := fun y => if y = x then nOne else nZ
theorem amp_one : Amp 0 nOne := ⟨Or.inl rfl, anti_one, Nat.le_refl _, fun k => by
  show (oneR k).natAbs * 1 < 2
  unfold oneR
  split
  · decide
  · split <;> decide⟩
theorem bas_amp (x y : Nat) : Amp 0 (bas x y) := by
  unfold bas
  split
  · exact amp_one
  · exact Amp.zero 0

set_option maxRecDepth 100000 in
set_option maxHeartbeats 2000000 in
theorem Basis_any (q x : Nat) (w : World) (hq : q ≤ 12) (hx : x < 2 ^ q) (P E : Nat) (hP : 1 ≤ P) (hL : LimQ Qc w) :
    Calls Tryd.prog 39 #[.int .i64 (q : Int), .int .i64 (x : Int)] w fun e w' => ∃ b, e = .returned (.slice (some ⟨b, 0, none⟩) (2 ^ q) (2 ^ q)) ∧ RsAt Qc w' b (2 ^ q) (bas x) P E ∧ w.heap.size ≤ b ∧ Ext w w' := by
  obtain ⟨n, hn⟩ : ∃ n, 2 ^ q = n := ⟨_, rfl⟩
  have hn2 : n ≤ 4096 := by rw [← hn]; exact Nat.le_trans (Nat.pow_le_pow_right (by decide) hq) (by decide)
  have hs := shl1 (q := q) (by omega)
  rw [hn] at hs hx ⊢
  have q0 : (0 : Int) ≤ (q : Int) := by omega
  have q1 : (0 : Int) ≤ (x : Int) := by omega
  have q2 : (x : Int) < (n : Int) := by omega
  have HLm := Lib.hid hL
  clear hL
  have HP := Lib.hid hP; have Hx := Lib.hid hx
  clear hn hq hP hx
  go_enter Tryd.func39, Tryd.ntmps39
  go_wp2_with (refine wpList_make_R (Qc := Qc) w rfl _ _ rfl .i64 .i64 (wrap64 (2 ^ min q 64)) (wrap64 (2 ^ min q 64)) n rfl rfl hs hs (by omega) ?_; intro w1 hR hE hl)
  refine (ZOf_any 1 (by decide) (by decide) w1 (HLm.out.grow hE.size)).mono ?_
  rintro e w2 ⟨b1, a1, n1, c1, rfl, hI, _, hE2⟩
  go_wp2_with fail
  refine (QOf_nm b1 a1 n1 c1 1 P E w2 hI (Nat.lt_of_lt_of_le (by decide) (Nat.pow_le_pow_right (by decide) HP.out) : (1 : Int).natAbs < 2 ^ P)).mono ?_
  rintro e w3 ⟨cr, rfl, hcr, hE3⟩
  have hR3 := ((hR P E).ext hE2).ext hE3
  obtain ⟨hS1, hS2⟩ := hR3.set Hx.out hcr
  have ht : w3.there w.heap.size (x * 17) cr.size := by rw [hcr.size]; exact (hR3.get Hx.out).choose_spec.2.2
  have hinf := hcr.info; have hone := hcr.val.one
  have Hend := Lib.hid (show RsAt Qc (w3.setCells w.heap.size (x * 17) cr.toList) w.heap.size n (bas x) P E ∧ w.heap.size ≤ w.heap.size ∧ Ext w (w3.setCells w.heap.size (x * 17) cr.toList) from ⟨hS1.congr (fun y _ => by unfold bas; rw [nOf_one]), Nat.le_refl _, hS2.ext ((hE.trans hE2).trans hE3) (Nat.le_refl _)⟩)
  clear hS1 hS2 hR3 hR hE hE2 hE3 hcr hI
  go_wp2_with (refine wpList_store_mid rfl 59 _ _ rfl w.heap.size (x * 17) cr rfl rfl ht hinf hone ?_)
  go_ret
  exact ⟨_, rfl, Hend.out⟩
end Go.Proofs.YtlmfhopifggeaaaDoor
namespace Go.Proofs.YtlmfhopifggeaaaDoor

theorem add_z (x : Nm) : EqN (nAdd x nZ) x := fun k => by simp only [nAdd, nZ]; grind
theorem z_add (x : Nm) : EqN (nAdd nZ x) x := fun k => by simp only [nAdd, nZ]; grind
theorem tr_z (m : Int) : nTr m nZ = nZ := rfl
theorem neg_z : nNeg nZ = nZ := by unfold nNeg nZ; congr 1
/-- What is laid for basis state y where those below j have been gone through. -/
noncomputable def gp (o : Gop) (s : Nat → Nm) (j y : Nat) : Nm :=
  if ons y o.ctl then
    if o.kind = 1 then (if y < j then nTr o.k (s y) else nZ)
    else if o.kind = 4 then (if y < j then (if bt y o.q then nTr o.k (s y) else s y) else nZ)
    else if o.kind = 2 then (if fl y o.q < j then s (fl y o.q) else nZ)
    else lw (nHf (nAdd (if fl y o.q < j then s (fl y o.q) else nZ) (if y < j then (if bt y o.q then nNeg (s y) else s y) else nZ)))
  else if y < j then s y else nZ
theorem hf_z : EqN (nHf (nAdd nZ nZ)) nZ := fun k => by simp only [nHf, nAdd, nZ, addR, trR]; simp
theorem lw_z {x : Nm} (h : EqN x nZ) : lw x = nZ := (lw_congr h).trans (lw_self low_nZ)
theorem gp_zero (o : Gop) (s : Nat → Nm) (y : Nat) : gp o s 0 y = nZ := by
  unfold gp
  split
  · split
    · simp
    · split
      · simp
      · split
        · simp
        · simp only [Nat.not_lt_zero, if_false]; exact lw_z hf_z
  · simp
theorem gp_end {o : Gop} {s : Nat → Nm} {n y : Nat} (hy : y < 2 ^ n) (hq : o.q.toNat < n) : gp o s (2 ^ n) y = gt o s y := by
  unfold gp gt
  have h := fl_lt hy hq
  simp only [hy, h, if_true]
theorem gp_amp {N : Nat} {o : Gop} {s : Nat → Nm} (h : ∀ x, Amp N (s x)) (j y : Nat) : Amp (N + 1) (gp o s j y) := by
  have hz := Amp.zero (N + 1)
  have h0 := Amp.zero N
  unfold gp
  split
  · split
    · split
      · exact ((h y).tr _).le (Nat.le_succ _)
      · exact hz
    · split
      · split
        · split
          · exact ((h y).tr _).le (Nat.le_succ _)
          · exact (h y).le (Nat.le_succ _)
        · exact hz
      · split
        · split
          · exact (h _).le (Nat.le_succ _)
          · exact hz
        · refine Amp.hf ?_ ?_
          · split
            · exact h _
            · exact h0
          · split
            · split
              · exact (h y).neg
              · exact h y
            · exact h0
  · split
    · exact (h y).le (Nat.le_succ _)
    · exact hz
/-- Of basis states but j and its neighbour nothing changes. -/
theorem gp_far {o : Gop} {s : Nat → Nm} {j y : Nat} (h1 : y ≠ j) (h2 : fl y o.q ≠ j) : gp o s (j + 1) y = gp o s j y := by
  have e1 : (y < j + 1) = (y < j) := propext (by omega)
  have e2 : (fl y o.q < j + 1) = (fl y o.q < j) := propext (by omega)
  unfold gp
  simp only [e1, e2]
theorem gp_nought {o : Gop} {s : Nat → Nm} {j : Nat} (h : s j = nZ) (y : Nat) : gp o s (j + 1) y = gp o s j y := by
  by_cases h1 : y = j
  · subst h1
    by_cases h2 : fl y o.q = y
    · unfold gp; simp [h2, h, tr_z, neg_z]
    · have e2 : (fl y o.q < y + 1) = (fl y o.q < y) := propext (by omega)
      unfold gp; simp [e2, h, tr_z, neg_z]
  · have e1 : (y < j + 1) = (y < j) := propext (by omega)
    by_cases h2 : fl y o.q = j
    · unfold gp; simp [e1, h2, h]
    · exact gp_far h1 h2
/-- Where a control is not 1. -/
theorem gp_plain {o : Gop} {s : Nat → Nm} {j : Nat} (h : ons j o.ctl = false) (hf : ons (fl j o.q) o.ctl = false) (y : Nat) : gp o s (j + 1) y = if y = j then s j else gp o s j y := by
  by_cases h1 : y = j
  · subst h1
    rw [if_pos rfl]
    unfold gp; simp [h]
  · rw [if_neg h1]
    have e1 : (y < j + 1) = (y < j) := propext (by omega)
    by_cases h2 : fl y o.q = j
    · have hy : ons y o.ctl = false := by
        have : y = fl j o.q := by rw [← h2, fl_fl]
        rw [this]; exact hf
      unfold gp; simp [e1, hy]
    · exact gp_far h1 h2
theorem gp_self_plain {o : Gop} {s : Nat → Nm} {j : Nat} (h : ons j o.ctl = false) : gp o s j j = nZ := by unfold gp; simp [h]
/-- A turn of all, or of what the qubit's 1 has. -/
theorem gp_turn {o : Gop} {s : Nat → Nm} {j : Nat} (h : ons j o.ctl = true) (hk : o.kind = 1 ∨ (o.kind = 4 ∧ bt j o.q = true)) (y : Nat) : gp o s (j + 1) y = if y = j then nTr o.k (s j) else gp o s j y := by
  have hk' : o.kind = 1 ∨ o.kind = 4 := hk.imp id And.left
  by_cases h1 : y = j
  · subst h1
    rw [if_pos rfl]
    unfold gp
    rcases hk with hk | ⟨hk, hb⟩
    · simp [h, hk]
    · simp [h, hk, hb]
  · rw [if_neg h1]
    have e1 : (y < j + 1) = (y < j) := propext (by omega)
    unfold gp
    rcases hk' with hk | hk
    · simp [e1, hk]
    · simp [e1, hk]
theorem gp_keep {o : Gop} {s : Nat → Nm} {j : Nat} (h : ons j o.ctl = true) (hk : o.kind = 4) (hb : bt j o.q = false) (y : Nat) : gp o s (j + 1) y = if y = j then s j else gp o s j y := by
  by_cases h1 : y = j
  · subst h1
    rw [if_pos rfl]
    unfold gp
    simp [h, hk, hb]
  · rw [if_neg h1]
    have e1 : (y < j + 1) = (y < j) := propext (by omega)
    unfold gp
    simp [e1, hk]
theorem gp_swap {o : Gop} {s : Nat → Nm} {j : Nat} (hf : ons (fl j o.q) o.ctl = true) (hj : ons j o.ctl = true) (hk : o.kind = 2) (y : Nat) : gp o s (j + 1) y = if y = fl j o.q then s j else gp o s j y := by
  by_cases h1 : y = fl j o.q
  · subst h1
    rw [if_pos rfl]
    unfold gp
    simp [hf, hk, fl_fl]
  · rw [if_neg h1]
    have h2 : fl y o.q ≠ j := fun e => h1 (by rw [← e, fl_fl])
    by_cases h3 : y = j
    · subst h3
      have e2 : (fl y o.q < y + 1) = (fl y o.q < y) := propext (by omega)
      unfold gp
      simp [hj, hk, e2]
    · exact gp_far h3 h2
/-- The Hadamard gate: two sums. -/
theorem gp_mix {o : Gop} {s : Nat → Nm} {j : Nat} (hf : ons (fl j o.q) o.ctl = true) (hj : ons j o.ctl = true) (hk : o.kind ≠ 1 ∧ o.kind ≠ 4 ∧ o.kind ≠ 2) {h z1 z2 : Nm} (eh : EqN h (nHf (s j))) (l1 : Low z1) (l2 : Low z2)
    (e1 : EqN z1 (nAdd (gp o s j (fl j o.q)) h)) (e2 : EqN z2 (nAdd (gp o s j j) (if bt j o.q then nNeg h else h))) (y : Nat) : gp o s (j + 1) y = if y = j then z2 else if y = fl j o.q then z1 else gp o s j y := by
  have hne : fl j o.q ≠ j := fun e => by
    have := bt_fl j o.q
    rw [e] at this
    cases hb : bt j o.q <;> simp [hb] at this
  by_cases h1 : y = j
  · subst h1
    rw [if_pos rfl]
    have e3 : (fl y o.q < y + 1) = (fl y o.q < y) := propext (by omega)
    have e4 : gp o s y y = lw (nHf (nAdd (if fl y o.q < y then s (fl y o.q) else nZ) nZ)) := by unfold gp; simp [hj, hk]
    have e6 : gp o s (y + 1) y = lw (nHf (nAdd (if fl y o.q < y then s (fl y o.q) else nZ) (if bt y o.q then nNeg (s y) else s y))) := by
      unfold gp; simp only [hj, hk, e3, if_true, if_false, Nat.lt_succ_self]
    rw [e6]
    refine (lw_one l2 (e2.trans ?_)).symm
    rw [e4]
    have e5 : EqN (if bt y o.q then nNeg h else h) (nHf (if bt y o.q then nNeg (s y) else s y)) := by
      split
      · rw [hf_neg]; exact EqN.neg eh
      · exact eh
    exact (EqN.add (lw_eq _) e5).trans ((hf_add _ _).trans (EqN.hf (EqN.add (add_z _) (EqN.refl _))))
  · rw [if_neg h1]
    by_cases h2 : y = fl j o.q
    · subst h2
      rw [if_pos rfl]
      have e3 : (fl j o.q < j + 1) = (fl j o.q < j) := propext (by omega)
      have e4 : gp o s j (fl j o.q) = lw (nHf (nAdd nZ (if fl j o.q < j then (if bt (fl j o.q) o.q then nNeg (s (fl j o.q)) else s (fl j o.q)) else nZ))) := by unfold gp; simp [hf, hk, fl_fl]
      have e5 : gp o s (j + 1) (fl j o.q) = lw (nHf (nAdd (s j) (if fl j o.q < j then (if bt (fl j o.q) o.q then nNeg (s (fl j o.q)) else s (fl j o.q)) else nZ))) := by
        unfold gp; simp only [hf, hk, fl_fl, if_true, if_false, Nat.lt_succ_self, e3]
      rw [e5]
      refine (lw_one l1 (e1.trans ?_)).symm
      rw [e4]
      refine (EqN.add (lw_eq _) eh).trans ((hf_add _ _).trans (EqN.hf ?_))
      refine (EqN.add (z_add _) (EqN.refl _)).trans ?_
      exact EqN.of_eq (nAdd_comm _ _)
    · rw [if_neg h2]
      exact gp_far h1 (fun e => h2 (by rw [← e, fl_fl]))
end Go.Proofs.YtlmfhopifggeaaaDoor
namespace Go.Proofs.YtlmfhopifggeaaaDoor
open Go.RowKit

theorem mem_take_iff (l : List Int) (x : Int) (i : Nat) : x ∈ l.take i ↔ ∃ t, t < i ∧ t < l.length ∧ l.getD t 0 = x := by
  constructor
  · intro h
    obtain ⟨t, ht, e⟩ := List.mem_iff_getElem.1 h
    rw [List.length_take] at ht
    refine ⟨t, by omega, by omega, ?_⟩
    rw [List.getD_eq_getElem?_getD, List.getElem?_eq_getElem (by omega)]
    rw [List.getElem_take] at e
    exact e
  · rintro ⟨t, h1, h2, e⟩
    rw [List.getD_eq_getElem?_getD, List.getElem?_eq_getElem h2] at e
    exact List.mem_iff_getElem.2 ⟨t, by rw [List.length_take]; omega, by rw [List.getElem_take]; exact e⟩

set_option maxHeartbeats 1000000 in
theorem Index_any (ao : Option Addr) (n c : Nat) (l : List Int) (x : Int) (w : World) (h : IntsAt w ao n l) (hnc : n ≤ c) (hc : c ≤ 9223372036854775807) :
    Calls Tryd.prog 91 #[.slice ao n c, .int .i64 x] w fun e w' => (∃ k : Int, e = .returned (.int .i64 k) ∧ (0 ≤ k ↔ x ∈ l)) ∧ w' = w := by
  have Hl := Lib.hid h.1
  have hab : n = 0 ∨ ∃ b o, ao = some ⟨b, o, none⟩ ∧ ∀ t, t < n → w.cell? ⟨b, o + t, none⟩ = some (.int .i64 (l.getD t 0)) := by
    rcases h.2 with h0 | ⟨b, o, e, _, hc⟩
    · exact Or.inl h0
    · exact Or.inr ⟨b, o, e, hc⟩
  clear h
  go_enter Tryd.func91, Tryd.ntmps91
  go_wp2_with fail
  go_loopg [8] n (fun k s8 wr => wr = w ∧ ∃ i : Nat, s8 = .int .i64 (i : Int) ∧ i ≤ n ∧ n - i = k ∧ ¬ x ∈ l.take i)
  case atStart => exact ⟨rfl, 0, rfl, by omega, by omega, by simp⟩
  case round =>
    obtain ⟨rfl, i, rfl, hi, hk, hno⟩ := hrel
    have Hno := Lib.hid hno
    clear hno
    by_cases hin : i = n
    · have h1 : ¬ (i : Int) < (n : Int) := by omega
      go_wp2_with fail
      go_ret
      refine ⟨⟨-1, rfl, ⟨fun h => absurd h (by decide), fun h => ?_⟩⟩, rfl⟩
      have := Hno.out
      rw [List.take_of_length_le (by rw [Hl.out]; omega)] at this
      exact absurd h this
    · have h1 : (i : Int) < (n : Int) := by omega
      have h0 : (0 : Int) ≤ (i : Int) := by omega
      rcases hab with h | ⟨b, o, rfl, hcell⟩
      · omega
      have hci := hcell i (by omega)
      obtain ⟨y, hy⟩ : ∃ y, l.getD i 0 = y := ⟨_, rfl⟩
      rw [hy] at hci
      have Hy := Lib.hid hy
      have Hcell := Lib.hid hcell
      clear hcell hy
      by_cases hxy : x = y
      · have hb : (x == y) = true := by simp [hxy]
        have Hxy := Lib.hid hxy
        clear hxy
        go_wp2_with fail
        go_ret
        exact ⟨⟨_, rfl, ⟨fun _ => by
          rw [Hxy.out, ← Hy.out, List.getD_eq_getElem?_getD, List.getElem?_eq_getElem (by rw [Hl.out]; omega)]
          exact List.getElem_mem _, fun _ => h0⟩⟩, rfl⟩
      · have hb : (x == y) = false := by simp [hxy]
        have Hxy := Lib.hid hxy
        clear hxy
        go_wp2_with fail
        go_roundg (n - (i + 1))
        case measure => omega
        case rel => exact ⟨rfl, i + 1, by go_num, by omega, rfl, fun h => by
          obtain ⟨t, h1, h2, h3⟩ := (mem_take_iff l x (i + 1)).1 h
          by_cases e : t = i
          · subst e; exact Hxy.out (by rw [← Hy.out, h3])
          · exact Hno.out ((mem_take_iff l x i).2 ⟨t, by omega, h2, h3⟩)⟩

set_option maxHeartbeats 400000 in
theorem Contains_any (ao : Option Addr) (n c : Nat) (l : List Int) (x : Int) (w : World) (h : IntsAt w ao n l) (hnc : n ≤ c) (hc : c ≤ 9223372036854775807) :
    Calls Tryd.prog 82 #[.slice ao n c, .int .i64 x] w fun e w' => e = .returned (.bool (decide (x ∈ l))) ∧ w' = w := by
  have Hi := Lib.hid (Index_any ao n c l x w h hnc hc)
  clear h
  go_enter Tryd.func82, Tryd.ntmps82
  go_wp2_with fail
  refine Hi.out.mono ?_
  rintro e w1 ⟨⟨k, rfl, hk⟩, rfl⟩
  have hb : decide (0 ≤ k) = decide (x ∈ l) := by rw [decide_eq_decide]; exact hk
  have Hb := Lib.hid hb
  clear hk hb
  go_wp2_with fail
  go_ret
  exact ⟨congrArg (fun b => Ending.returned (Value.bool b)) Hb.out, rfl⟩

set_option maxHeartbeats 1000000 in
theorem member_any (ao : Option Addr) (n c : Nat) (l : List Int) (x : Int) (w : World) (h : IntsAt w ao n l) (hnc : n ≤ c) (hc : c ≤ 9223372036854775807) :
    Calls Tryd.prog 30 #[.slice ao n c, .int .i64 x] w fun e w' => e = .returned (.bool (decide (x ∈ l))) ∧ w' = w := by
  have Hl := Lib.hid h.1
  have hab : n = 0 ∨ ∃ b o, ao = some ⟨b, o, none⟩ ∧ ∀ t, t < n → w.cell? ⟨b, o + t, none⟩ = some (.int .i64 (l.getD t 0)) := by
    rcases h.2 with h0 | ⟨b, o, e, _, hc⟩
    · exact Or.inl h0
    · exact Or.inr ⟨b, o, e, hc⟩
  obtain ⟨r, hr⟩ : ∃ r, decide (x ∈ l) = r := ⟨_, rfl⟩
  rw [hr]
  have Hr := Lib.hid hr
  clear h hr
  go_enter Tryd.func30, Tryd.ntmps30
  go_wp2_with fail
  go_loopg [5] n (fun k s5 wr => wr = w ∧ ∃ i : Nat, s5 = .int .i64 (i : Int) ∧ i ≤ n ∧ n - i = k ∧ ¬ x ∈ l.take i)
  case atStart => exact ⟨rfl, 0, rfl, by omega, by omega, by simp⟩
  case round =>
    obtain ⟨rfl, i, rfl, hi, hk, hno⟩ := hrel
    have Hno := Lib.hid hno
    clear hno
    by_cases hin : i = n
    · have h1 : ¬ (i : Int) < (n : Int) := by omega
      have hf : r = false := by
        rw [← Hr.out, decide_eq_false_iff_not]
        have := Hno.out
        rw [List.take_of_length_le (by rw [Hl.out]; omega)] at this
        exact this
      have HF := Lib.hid hf
      clear hf Hr
      go_wp2_with fail
      go_ret
      exact ⟨congrArg (fun b => Ending.returned (Value.bool b)) HF.out.symm, rfl⟩
    · have h1 : (i : Int) < (n : Int) := by omega
      have h0 : (0 : Int) ≤ (i : Int) := by omega
      rcases hab with h | ⟨b, o, rfl, hcell⟩
      · omega
      have hci := hcell i (by omega)
      obtain ⟨y, hy⟩ : ∃ y, l.getD i 0 = y := ⟨_, rfl⟩
      rw [hy] at hci
      have Hy := Lib.hid hy
      have Hcell := Lib.hid hcell
      clear hcell hy
      by_cases hxy : x = y
      · have hb : (y == x) = true := by simp [hxy]
        have ht : r = true := by
          rw [← Hr.out, decide_eq_true_iff, hxy, ← Hy.out, List.getD_eq_getElem?_getD, List.getElem?_eq_getElem (by rw [Hl.out]; omega)]
          exact List.getElem_mem _
        have HF := Lib.hid ht
        clear hxy ht Hr
        go_wp2_with fail
        go_ret
        exact ⟨congrArg (fun b => Ending.returned (Value.bool b)) HF.out.symm, rfl⟩
      · have hb : (y == x) = false := by simp [Ne.symm hxy]
        have Hxy := Lib.hid hxy
        clear hxy
        go_wp2_with fail
        go_roundg (n - (i + 1))
        case measure => omega
        case rel => exact ⟨rfl, i + 1, by go_num, by omega, rfl, fun h => by
          obtain ⟨t, h1, h2, h3⟩ := (mem_take_iff l x (i + 1)).1 h
          by_cases e : t = i
          · subst e; exact Hxy.out (by rw [← Hy.out, h3])
          · exact Hno.out ((mem_take_iff l x i).2 ⟨t, by omega, h2, h3⟩)⟩

set_option maxHeartbeats 1000000 in
theorem areConditions_any (ao : Option Addr) (n c : Nat) (l : List Int) (bits : Int) (w : World) (h : IntsAt w ao n l) (_hnc : n ≤ c) (_hc : c ≤ 9223372036854775807) (hb0 : 0 ≤ bits) (hb1 : bits ≤ 12) :
    Calls Tryd.prog 72 #[.slice ao n c, .int .i64 bits] w fun e w' => e = .returned (.bool (cndOk bits l)) ∧ w' = w := by
  have Hl := Lib.hid h.1
  have hab : n = 0 ∨ ∃ b o, ao = some ⟨b, o, none⟩ ∧ ∀ t, t < n → w.cell? ⟨b, o + t, none⟩ = some (.int .i64 (l.getD t 0)) := by
    rcases h.2 with h0 | ⟨b, o, e, _, hc⟩
    · exact Or.inl h0
    · exact Or.inr ⟨b, o, e, hc⟩
  obtain ⟨r, hr⟩ : ∃ r, cndOk bits l = r := ⟨_, rfl⟩
  rw [hr]
  have Hr := Lib.hid hr
  clear h hr
  by_cases hn : 24 < n
  · have h1 : (24 : Int) < (n : Int) := by omega
    have hf : r = false := by rw [← Hr.out]; unfold cndOk; rw [Hl.out]; simp; omega
    have HF := Lib.hid hf
    clear hf Hr hn
    go_enter Tryd.func72, Tryd.ntmps72
    go_wp2_with fail
    go_ret
    exact ⟨congrArg (fun b => Ending.returned (Value.bool b)) HF.out.symm, rfl⟩
  · have h1 : ¬ (24 : Int) < (n : Int) := by omega
    have hall : r = l.all (termOk bits) := by
      rw [← Hr.out]; unfold cndOk
      have : decide (l.length ≤ 24) = true := by rw [Hl.out]; simp; omega
      rw [this, Bool.true_and]
    have Hall := Lib.hid hall
    have hwb : IntKind.i64.wrap (-bits) = -bits := by rw [IntKind.wrap_i64]; omega
    clear hall Hr hn
    go_enter Tryd.func72, Tryd.ntmps72
    go_wp2_with fail
    go_loopg [12] n (fun k s12 wr => wr = w ∧ ∃ i : Nat, s12 = .int .i64 (i : Int) ∧ i ≤ n ∧ n - i = k ∧ r = (l.drop i).all (termOk bits))
    case atStart => exact ⟨rfl, 0, rfl, by omega, by omega, Hall.out⟩
    case round =>
      obtain ⟨rfl, i, rfl, hi, hk, hr⟩ := hrel
      by_cases hin : i = n
      · have h2 : ¬ (i : Int) < (n : Int) := by omega
        have ht : r = true := by rw [hr, List.drop_eq_nil_of_le (by rw [Hl.out]; omega)]; rfl
        have HF := Lib.hid ht
        clear hr ht Hall
        go_wp2_with fail
        go_ret
        exact ⟨congrArg (fun b => Ending.returned (Value.bool b)) HF.out.symm, rfl⟩
      · have h2 : (i : Int) < (n : Int) := by omega
        have h0 : (0 : Int) ≤ (i : Int) := by omega
        rcases hab with h | ⟨b, o, rfl, hcell⟩
        · omega
        have hci := hcell i (by omega)
        obtain ⟨y, hy⟩ : ∃ y, l.getD i 0 = y := ⟨_, rfl⟩
        rw [hy] at hci
        have hst := all_step (termOk bits) l i (by rw [Hl.out]; omega)
        rw [hy, ← hr] at hst
        have Hst := Lib.hid hst
        have Hcell := Lib.hid hcell
        clear hcell hy hr hst
        by_cases y0 : y = 0
        · have ht : termOk bits y = false := by simp [termOk, y0]
          have hf : r = false := by rw [Hst.out, ht]; rfl
          have HF := Lib.hid hf
          subst y0
          clear hf ht Hst Hall
          go_wp2_with fail
          go_ret
          exact ⟨congrArg (fun b => Ending.returned (Value.bool b)) HF.out.symm, rfl⟩
        · have e0 : (y == 0) = false := by simp [y0]
          by_cases y1 : y < -bits
          · have ht : termOk bits y = false := by unfold termOk; simp; omega
            have hf : r = false := by rw [Hst.out, ht]; rfl
            have HF := Lib.hid hf
            clear hf ht Hst Hall
            go_wp2_with fail
            go_ret
            exact ⟨congrArg (fun b => Ending.returned (Value.bool b)) HF.out.symm, rfl⟩
          · have e1 : decide (y < -bits) = false := by simp; omega
            by_cases y2 : bits < y
            · have ht : termOk bits y = false := by unfold termOk; simp; omega
              have hf : r = false := by rw [Hst.out, ht]; rfl
              have HF := Lib.hid hf
              clear hf ht Hst Hall
              go_wp2_with fail
              go_ret
              exact ⟨congrArg (fun b => Ending.returned (Value.bool b)) HF.out.symm, rfl⟩
            · have e2 : decide (bits < y) = false := by simp; omega
              have ht : termOk bits y = true := by unfold termOk; simp; omega
              have hst' : r = (l.drop (i + 1)).all (termOk bits) := by rw [Hst.out, ht]; rfl
              have Hst' := Lib.hid hst'
              clear ht hst' Hst y1 y2
              go_wp2_with fail
              go_roundg (n - (i + 1))
              case measure => omega
              case rel => exact ⟨rfl, i + 1, by go_num, by omega, rfl, Hst'.out⟩

end Go.Proofs.YtlmfhopifggeaaaDoor
namespace Go.Proofs.YtlmfhopifggeaaaDoor
open Go.RowKit

/-- The lists of an operation. -/
structure OpL (w : World) (o : Gop) (a1 : Option Addr) (n1 c1 : Nat) (a2 : Option Addr) (n2 c2 : Nat) : Prop where
  i1 : IntsAt w a1 n1 o.ctl
  h1 : n1 ≤ c1
  m1 : c1 ≤ 9223372036854775807
  i2 : IntsAt w a2 n2 o.cnd
  h2 : n2 ≤ c2
  m2 : c2 ≤ 9223372036854775807
theorem OpL.ext {w w' : World} {o : Gop} {a1 : Option Addr} {n1 c1 : Nat} {a2 : Option Addr} {n2 c2 : Nat} (h : OpL w o a1 n1 c1 a2 n2 c2) (k : Ext w w') : OpL w' o a1 n1 c1 a2 n2 c2 := ⟨h.i1.ext k, h.h1, h.m1, h.i2.ext k, h.h2, h.m2⟩

/-- The cells of an operation in a variable. -/
structure OpBx (W : World) (g : Nat) (k0 k1 : Int) (a1 : Option Addr) (n1 c1 : Nat) (k3 k4 : Int) (a2 : Option Addr) (n2 c2 : Nat) : Prop where
  row : W.heap[g]? = some (.cells #[.int .i64 k0, .int .i64 k1, .slice a1 n1 c1, .int .i64 k3, .int .i64 k4, .slice a2 n2 c2] 46 (0, 0))
section
variable {W W' : World} {g : Nat} {k0 k1 : Int} {a1 : Option Addr} {n1 c1 : Nat} {k3 k4 : Int} {a2 : Option Addr} {n2 c2 : Nat}
theorem OpBx.lt (h : OpBx W g k0 k1 a1 n1 c1 k3 k4 a2 n2 c2) : g < W.heap.size := (Array.getElem?_eq_some_iff.1 h.row).1
theorem OpBx.ext (h : OpBx W g k0 k1 a1 n1 c1 k3 k4 a2 n2 c2) (k : Ext W W') : OpBx W' g k0 k1 a1 n1 c1 k3 k4 a2 n2 c2 := ⟨(k.block _ h.lt).trans h.row⟩
theorem OpBx.x0 (h : OpBx W g k0 k1 a1 n1 c1 k3 k4 a2 n2 c2) : W.cell? ⟨g, 0, none⟩ = some (.int .i64 k0) := by rw [cell_of_row W g 0 _ _ (0, 0) h.row]; rfl
theorem OpBx.x1 (h : OpBx W g k0 k1 a1 n1 c1 k3 k4 a2 n2 c2) : W.cell? ⟨g, 1, none⟩ = some (.int .i64 k1) := by rw [cell_of_row W g 1 _ _ (0, 0) h.row]; rfl
theorem OpBx.x2 (h : OpBx W g k0 k1 a1 n1 c1 k3 k4 a2 n2 c2) : W.cell? ⟨g, 2, none⟩ = some (.slice a1 n1 c1) := by rw [cell_of_row W g 2 _ _ (0, 0) h.row]; rfl
theorem OpBx.x3 (h : OpBx W g k0 k1 a1 n1 c1 k3 k4 a2 n2 c2) : W.cell? ⟨g, 3, none⟩ = some (.int .i64 k3) := by rw [cell_of_row W g 3 _ _ (0, 0) h.row]; rfl
theorem OpBx.x4 (h : OpBx W g k0 k1 a1 n1 c1 k3 k4 a2 n2 c2) : W.cell? ⟨g, 4, none⟩ = some (.int .i64 k4) := by rw [cell_of_row W g 4 _ _ (0, 0) h.row]; rfl
theorem OpBx.x5 (h : OpBx W g k0 k1 a1 n1 c1 k3 k4 a2 n2 c2) : W.cell? ⟨g, 5, none⟩ = some (.slice a2 n2 c2) := by rw [cell_of_row W g 5 _ _ (0, 0) h.row]; rfl
theorem OpBx.f (h : OpBx W g k0 k1 a1 n1 c1 k3 k4 a2 n2 c2) (o : Nat) : W.frozen? ⟨g, o, none⟩ = false := frozen_of_row W g o _ _ h.row
theorem opbx_new (w : World) (k0 k1 : Int) (a1 : Option Addr) (n1 c1 : Nat) (k3 k4 : Int) (a2 : Option Addr) (n2 c2 : Nat) : OpBx (w.alloc (.cells #[.int .i64 k0, .int .i64 k1, .slice a1 n1 c1, .int .i64 k3, .int .i64 k4, .slice a2 n2 c2] 46)) w.heap.size k0 k1 a1 n1 c1 k3 k4 a2 n2 c2 := ⟨heap_alloc_new w _⟩
end
theorem cell_ext {w w' : World} {b o : Nat} {v : Value} (h : w.cell? ⟨b, o, none⟩ = some v) (k : Ext w w') : w'.cell? ⟨b, o, none⟩ = some v :=
  (k.cell (p := ⟨b, o, none⟩) (World.block_lt_of_cell? w ⟨b, o, none⟩ h)).trans h
theorem ext_al (w : World) (o : Obj) : Ext w (w.alloc o) := (Below.refl _ _).alloc (Nat.le_refl _) o

set_option maxHeartbeats 2000000 in
theorem checkControls_any (k0 k1 : Int) (a1 : Option Addr) (n1 c1 : Nat) (q k4 : Int) (a2 : Option Addr) (n2 c2 : Nat) (l : List Int) (n : Int) (w : World) (h : IntsAt w a1 n1 l) (hnc : n1 ≤ c1) (hc : c1 ≤ 9223372036854775807) :
    Calls Tryd.prog 71 #[.agg #[.int .i64 k0, .int .i64 k1, .slice a1 n1 c1, .int .i64 q, .int .i64 k4, .slice a2 n2 c2], .int .i64 n] w fun e w' => e = .returned (.int .i64 (ctlCode q n [] l)) ∧ Ext w w' := by
  have HE := Lib.hid (ext_al w (.cells #[.int .i64 k0, .int .i64 k1, .slice a1 n1 c1, .int .i64 q, .int .i64 k4, .slice a2 n2 c2] 46))
  have bx := opbx_new w k0 k1 a1 n1 c1 q k4 a2 n2 c2
  have I0 := h.ext HE.out
  have m2 := bx.x2; have m3 := bx.x3
  have Hl := Lib.hid h.1
  have hab : n1 = 0 ∨ ∃ b o, a1 = some ⟨b, o, none⟩ := by
    rcases h.2 with h0 | ⟨b, o, e, _, hc⟩
    · exact Or.inl h0
    · exact Or.inr ⟨b, o, e⟩
  obtain ⟨r, hr⟩ : ∃ r, ctlCode q n [] l = r := ⟨_, rfl⟩
  rw [hr]
  have Hr := Lib.hid hr
  clear h hr bx
  go_enter Tryd.func71, Tryd.ntmps71
  go_wp2_with fail
  generalize w.alloc (.cells #[.int .i64 k0, .int .i64 k1, .slice a1 n1 c1, .int .i64 q, .int .i64 k4, .slice a2 n2 c2] 46) = W0 at *
  have HI0 := Lib.hid I0
  clear I0
  go_loopg [10] n1 (fun k s10 wr => wr = W0 ∧ ∃ i : Nat, s10 = .int .i64 (i : Int) ∧ i ≤ n1 ∧ n1 - i = k ∧ r = ctlCode q n (l.take i) (l.drop i))
  case atStart => exact ⟨rfl, 0, rfl, by omega, by omega, Hr.out.symm⟩
  case round =>
    obtain ⟨rfl, i, rfl, hi, hk, hri⟩ := hrel
    by_cases hin : i = n1
    · have h2 : ¬ (i : Int) < (n1 : Int) := by omega
      have hz : r = 0 := by rw [hri]; exact ctlCode_end q n l i (by rw [Hl.out]; omega)
      have HF := Lib.hid hz
      clear hri hz
      go_wp2_with fail
      go_ret
      exact ⟨congrArg (fun b => Ending.returned (Value.int .i64 b)) HF.out.symm, HE.out⟩
    · have h2 : (i : Int) < (n1 : Int) := by omega
      have h0 : (0 : Int) ≤ (i : Int) := by omega
      have hic : (i : Int) ≤ (c1 : Int) := by omega
      rcases hab with h | ⟨b, o, rfl⟩
      · omega
      obtain ⟨b', o', e, _, hcell⟩ := HI0.out.at (by omega)
      cases e
      have hci := hcell i (by omega)
      obtain ⟨y, hy⟩ : ∃ y, l.getD i 0 = y := ⟨_, rfl⟩
      rw [hy] at hci
      have hst := ctlCode_step q n l i (by rw [Hl.out]; omega)
      rw [← hri, hy] at hst
      have Hst := Lib.hid hst
      have HB := Lib.hid (isBelow_any y n wr)
      have HC := Lib.hid (Contains_any (some ⟨b, o, none⟩) i c1 (l.take i) y wr (HI0.out.take i (by omega)) (by omega) hc)
      obtain ⟨bl, hbl⟩ : ∃ x, below y n = x := ⟨_, rfl⟩
      rw [hbl] at HB
      clear hcell hy hri hst
      cases bl
      · have hz : r = 10 := by rw [Hst.out, if_pos hbl]
        have HF := Lib.hid hz
        clear hz Hst hbl
        go_wp2_with fail
        refine HB.out.mono ?_
        rintro e w1 ⟨rfl, rfl⟩
        go_wp2_with fail
        go_ret
        exact ⟨congrArg (fun b => Ending.returned (Value.int .i64 b)) HF.out.symm, HE.out⟩
      · have hst1 : r = if y = q ∨ y ∈ l.take i then 12 else ctlCode q n (l.take (i + 1)) (l.drop (i + 1)) := by rw [Hst.out, if_neg (by rw [hbl]; decide)]
        have Hst1 := Lib.hid hst1
        clear hst1 Hst hbl
        by_cases hyq : y = q
        · have hb : (y == q) = true := by simp [hyq]
          have hz : r = 12 := by rw [Hst1.out, if_pos (Or.inl hyq)]
          have HF := Lib.hid hz
          clear hz hyq Hst1
          go_wp2_with fail
          refine HB.out.mono ?_
          rintro e w1 ⟨rfl, rfl⟩
          go_wp2_with fail
          go_ret
          exact ⟨congrArg (fun b => Ending.returned (Value.int .i64 b)) HF.out.symm, HE.out⟩
        · have hb : (y == q) = false := by simp [hyq]
          have Hyq := Lib.hid hyq
          obtain ⟨bm, hbm⟩ : ∃ x, decide (y ∈ l.take i) = x := ⟨_, rfl⟩
          rw [hbm] at HC
          clear hyq
          cases bm
          · have hz : r = ctlCode q n (l.take (i + 1)) (l.drop (i + 1)) := by rw [Hst1.out, if_neg (fun h => h.elim Hyq.out (of_decide_eq_false hbm))]
            have HF := Lib.hid hz
            clear hz hbm Hst1
            go_wp2_with fail
            refine HB.out.mono ?_
            rintro e w1 ⟨rfl, rfl⟩
            go_wp2_with fail
            refine HC.out.mono ?_
            rintro e w1 ⟨rfl, rfl⟩
            go_wp2_with fail
            go_roundg (n1 - (i + 1))
            case measure => omega
            case rel => exact ⟨rfl, i + 1, by go_num, by omega, rfl, HF.out⟩
          · have hz : r = 12 := by rw [Hst1.out, if_pos (Or.inr (of_decide_eq_true hbm))]
            have HF := Lib.hid hz
            clear hz hbm Hst1
            go_wp2_with fail
            refine HB.out.mono ?_
            rintro e w1 ⟨rfl, rfl⟩
            go_wp2_with fail
            refine HC.out.mono ?_
            rintro e w1 ⟨rfl, rfl⟩
            go_wp2_with fail
            go_ret
            exact ⟨congrArg (fun b => Ending.returned (Value.int .i64 b)) HF.out.symm, HE.out⟩

end Go.Proofs.YtlmfhopifggeaaaDoor
namespace Go.Proofs.YtlmfhopifggeaaaDoor
variable {Qc : Nat → Prop}
open Go.RowKit

theorem stepK_storeM {ops : Array Oper} {o : Oper} {a : Act} {K : Act → World → Prop} {Q : Exit → Act → World → Prop} {E : Prop} {w : World} (hgd : o.guard = none) (hd : o.dst = none) (ty : TypeId) (p x : Operand)
    (ho : o.op = .store ty p x) (b off : Nat) (cells : Array Value) (hp : a.eval p = .pointer (some ⟨b, off, none⟩)) (hx : a.eval x = .agg cells) (ht : w.there b off cells.size)
    (hi : (Tryd.prog.info? ty).map (·.size) = some cells.size) (h1 : cells.all (·.oneCell') = true) (h : K a (w.setCells b off cells.toList)) :
    if Region.wanted o (yielded ops a.tmps) = true then Oper.wp Tryd.prog o a w K Q else E := by
  have hw : Region.wanted o (yielded ops a.tmps) = true := by simp [Region.wanted, hgd]
  rw [if_pos hw]
  refine wp_store_mid ty p x ho b off cells hp hx ht hi h1 ?_
  rw [hd]
  exact h
theorem RmA.amp {w : World} {c : Array Value} {z : Nm} {P' E' P E N : Nat} (h : RmA Qc w c z P' E') (ha : Amp N z) (hP : 2 * N + 1 ≤ P) (hE : N ≤ E) : RmA Qc w c z P E :=
  ⟨h.anti, h.low, fun k => Nat.lt_of_lt_of_le (ha.bd.abs k) (Nat.pow_le_pow_right (by decide) hP), Nat.le_trans ha.bd.1 hE, h.val⟩
theorem ons_fl {x : Nat} {q : Int} {l : List Int} (h : ∀ c ∈ l, c.toNat ≠ q.toNat) : ons (fl x q) l = ons x l := by
  unfold ons
  rw [Bool.eq_iff_iff, List.all_eq_true, List.all_eq_true]
  constructor
  · intro g c hc; have := g c hc; rw [bt_fl_ne (h c hc)] at this; exact this
  · intro g c hc; rw [bt_fl_ne (h c hc)]; exact g c hc
theorem xor_i64 (x y : Nat) (hx : x < 1048576) (hy : y < 1048576) : bits .xor .i64 (x : Int) (y : Int) = ((x ^^^ y : Nat) : Int) := by
  show IntKind.i64.wrap ((BitVec.ofInt 64 (x : Int) ^^^ BitVec.ofInt 64 (y : Int)).toNat : Int) = _
  have h1 := ofInt_toNat (x : Int); have h2 := ofInt_toNat (y : Int)
  have h3 : (BitVec.ofInt 64 (x : Int)).toNat = x := by omega
  have h4 : (BitVec.ofInt 64 (y : Int)).toNat = y := by omega
  have h5 : x ^^^ y < 2 ^ 20 := Nat.xor_lt_two_pow hx hy
  rw [BitVec.toNat_xor, h3, h4, IntKind.wrap_i64]
  omega
/-- One of them: its cells, as a list. -/
theorem RsAt.at {w : World} {b n : Nat} {s : Nat → Nm} {P E : Nat} (h : RsAt Qc w b n s P E) {x : Nat} (hx : x < n) : ∃ cl : List Value, w.rangeAt b (x * 17) cl ∧ RmA Qc w cl.toArray (s x) P E ∧ cl.length = 17 := by
  obtain ⟨c, h1, h2, _⟩ := h.get hx
  refine ⟨c.toList, h1, by rw [Array.toArray_toList]; exact h2, ?_⟩
  have := h2.size
  simpa using this
theorem RsAt.there {w : World} {b n : Nat} {s : Nat → Nm} {P E : Nat} (h : RsAt Qc w b n s P E) {x : Nat} (hx : x < n) : w.there b (x * 17) 17 := by
  obtain ⟨c, _, _, h3⟩ := h.get hx
  exact h3
theorem range_keep {w w' : World} {b off : Nat} {l : List Value} (h : w.rangeAt b off l) (hb : b < w.heap.size) (k : Ext w w') : w'.rangeAt b off l := fun j v hv => by
  have := h j v hv
  exact (World.cell?_of_block (a := ⟨b, off + j, none⟩) (k.block b hb)).trans this
end Go.Proofs.YtlmfhopifggeaaaDoor
namespace Go.Proofs.YtlmfhopifggeaaaDoor
open Go.RowKit

theorem or_i64 (x y : Nat) (hx : x < 1048576) (hy : y < 1048576) : bits .or .i64 (x : Int) (y : Int) = ((x ||| y : Nat) : Int) := by
  show IntKind.i64.wrap ((BitVec.ofInt 64 (x : Int) ||| BitVec.ofInt 64 (y : Int)).toNat : Int) = _
  have h1 := ofInt_toNat (x : Int); have h2 := ofInt_toNat (y : Int)
  have h3 : (BitVec.ofInt 64 (x : Int)).toNat = x := by omega
  have h4 : (BitVec.ofInt 64 (y : Int)).toNat = y := by omega
  have h5 : x ||| y < 2 ^ 20 := Nat.or_lt_two_pow hx hy
  rw [BitVec.toNat_or, h3, h4, IntKind.wrap_i64]
  omega
end Go.Proofs.YtlmfhopifggeaaaDoor
namespace Go.Proofs.YtlmfhopifggeaaaDoor
variable {Qc : Nat → Prop}
open Go.RowKit

theorem hf_sq {x : Nm} (h : Anti x.a) : nHf x = ⟨sqR x.a, x.e + 1⟩ := by unfold nHf; rw [sqR_add h]
theorem eq_hf {x z : Nm} (h : Anti x.a) (q : EqN z (nSq x)) : EqN ⟨z.a, z.e + 1⟩ (nHf x) := fun k => by
  have := q k
  rw [hf_sq h]
  simp only [nSq] at this ⊢
  show z.a k * 2 ^ (x.e + 1) = sqR x.a k * 2 ^ (z.e + 1)
  rw [Int.pow_succ, Int.pow_succ, ← Int.mul_assoc, ← Int.mul_assoc, this]
theorem eq_hf0 {x z : Nm} (h : Anti x.a) (q : EqN z (nSq x)) (hz : ∀ k, z.a k = 0) : EqN z (nHf x) := fun k => by
  have h1 := q.zero.1 hz k
  rw [hf_sq h]
  show z.a k * 2 ^ (x.e + 1) = sqR x.a k * 2 ^ z.e
  have h2 : sqR x.a k = 0 := h1
  rw [hz, h2]; simp
set_option maxRecDepth 100000 in
set_option maxHeartbeats 4000000 in
theorem QHalf_nm (ca : Array Value) (x : Nm) (P E : Nat) (w : World) (h : RmA Qc w ca x P E) (hP : P + E + 1 ≤ 400000) (hE : E ≤ 10000) (hL : LimQ Qc w) :
    Calls Tryd.prog 63 #[.agg ca] w fun r w' => ∃ (cr : Array Value) (z : Nm), r = .returned (.agg cr) ∧ RmA Qc w' cr z (P + E + 1) (E + 1) ∧ EqN z (nHf x) ∧ Ext w w' := by
  obtain ⟨H, hH⟩ : ∃ H, w.heap.size = H := ⟨_, rfl⟩
  obtain ⟨U, hU⟩ : ∃ U, (w.alloc (.cells ca 59)).alloc (.cells zeroR 59) = U := ⟨_, rfl⟩
  have E0 : Ext w U := by rw [← hU]; exact (Ext.alloc _ _).trans (Ext.alloc _ _)
  have hrA : U.heap[H]? = some (.cells ca 59 (0, 0)) := by rw [← hU, ← hH]; exact ((Ext.alloc _ _).block _ (Array.getElem?_eq_some_iff.1 (heap_alloc_new w (.cells ca 59))).1).trans (heap_alloc_new w _)
  have Z0 : ZVar Qc U (H + 1) (fun _ => 0) 0 := by
    have := (zcs_zero (Qc := Qc) (w.alloc (.cells ca 59))).box
    rw [← hU, ← hH]
    simpa using this
  have lA := (Array.getElem?_eq_some_iff.1 hrA).1
  have HT := Lib.hid (fun (k : Int) (wx : World) (hx : Ext U wx) => QTurn_nm ca x P E k wx (h.ext (E0.trans hx)) (by omega))
  have HLU := Lib.hid (hL.grow E0.size)
  clear hL
  have hi1 := h.info
  have Hant := Lib.hid h.anti
  have HU := Lib.hid hU; have HH := Lib.hid hH; have HZ0 := Lib.hid Z0; have HE0 := Lib.hid E0; have HP := Lib.hid hP; have HEE := Lib.hid hE
  clear hU hH Z0 E0 h hP hE
  go_enter Tryd.func63, Tryd.ntmps63
  go_upto_region 1 with fail
  rw [HU.out, HH.out]
  clear HU
  go_cut [3] from 4 to 8 (fun s3 wx => ∃ (D : Nat) (c : Array Value) (z : Nm), s3 = .pointer (some ⟨D, 0, none⟩) ∧ wx.heap[D]? = some (.cells c 59 (0, 0)) ∧ RmA Qc wx c z (P + E + 1) E ∧ EqN z (nSq x) ∧ U.heap.size ≤ D ∧ Ext U wx)
  case first =>
    have he0 : Ext U U.drew := Below.drew (Ext.refl _)
    have HS : ∀ w', Ext U w' → w'.heap[H]? = some (.cells ca 59 (0, 0)) := fun w' hx => (hx.block _ lA).trans hrA
    refine wp_region_held (S := fun w' => w'.heap[H]? = some (.cells ca 59 (0, 0))) (by kernel_rfl) ?_
    generalize hops : (#[_, _, _, _, _, _, _] : Array Oper) = ops
    have hA0 : IsAlloc Tryd.prog ops 5 3 59 zeroR := by
      subst hops
      exact ⟨_, rfl, rfl, fun _ => rfl, fun _ _ => by kernel_rfl⟩
    subst hops
    refine (Flo1.start (W0 := U) (ty := 59) (z := zeroR) (l := (fun p => #[false, false, false, false, false, p, false])) (fr := (fun t => ⟨#[.agg ca, .pointer (some ⟨H, 0, none⟩), .pointer (some ⟨H + 1, 0, none⟩), t, undef, undef, undef, undef, undef, undef, undef, undef, undef, undef, undef, undef, undef, undef], []⟩)) (n := 6) ?_)
    refine Flo1.take HS he0 0 (.agg ca) rfl (by kernel_rfl) (fun p => by cases p <;> kernel_rfl) (fun p => by cases p <;> kernel_rfl) (fun _ _ _ h => h) (fun t => Or.inl ⟨by kernel_rfl, ?_⟩) (fun p => #[true, false, false, false, false, p, false]) (fun p => by cases p <;> kernel_rfl) (fun t => ⟨#[.agg ca, .pointer (some ⟨H, 0, none⟩), .pointer (some ⟨H + 1, 0, none⟩), t, .agg ca, undef, undef, undef, undef, undef, undef, undef, undef, undef, undef, undef, undef, undef], []⟩) (fun _ => by kernel_rfl) ?_
    · intro w hSw
      exact exec_load_row 59 _ rfl (H) rfl 59 _ (0, 0) _ hSw Tryd.underlying59 rfl hi1
    refine Flo1.take HS he0 2 (.agg ca) rfl (by kernel_rfl) (fun p => by cases p <;> kernel_rfl) (fun p => by cases p <;> kernel_rfl) (fun _ _ _ h => h) (fun t => Or.inl ⟨by kernel_rfl, ?_⟩) (fun p => #[true, false, true, false, false, p, false]) (fun p => by cases p <;> kernel_rfl) (fun t => ⟨#[.agg ca, .pointer (some ⟨H, 0, none⟩), .pointer (some ⟨H + 1, 0, none⟩), t, .agg ca, undef, .agg ca, undef, undef, undef, undef, undef, undef, undef, undef, undef, undef, undef], []⟩) (fun _ => by kernel_rfl) ?_
    · intro w hSw
      exact exec_load_row 59 _ rfl (H) rfl 59 _ (0, 0) _ hSw Tryd.underlying59 rfl hi1
    refine Flo1.call hA0 HS he0 1 rfl (fun p => by cases p <;> kernel_rfl) (by kernel_rfl) (fun _ _ => by kernel_rfl) (fun _ => by kernel_rfl) 62 #[.agg ca, .int .i64 2] (fun _ _ => by kernel_rfl) (R := fun v w' => ∃ c, v = .agg c ∧ RmA Qc w' c (nTr 2 x) P E) (fun wx hx => (HT.out 2 wx (he0.trans hx)).mono ?_) (fun p => #[true, true, true, false, false, p, false]) (fun p => by cases p <;> kernel_rfl) (fun vv t => ⟨#[.agg ca, .pointer (some ⟨H, 0, none⟩), .pointer (some ⟨H + 1, 0, none⟩), t, .agg ca, vv, .agg ca, undef, undef, undef, undef, undef, undef, undef, undef, undef, undef, undef], []⟩) (fun _ _ => by kernel_rfl) ?_
    · rintro e w' ⟨c, rfl, n, hx'⟩; exact ⟨_, rfl, ⟨c, rfl, n⟩, hx'⟩
    rintro v w1x ⟨c5, rfl, n5⟩ hq1
    have he1 := he0.trans hq1
    refine Flo1.call hA0 HS he1 3 rfl (fun p => by cases p <;> kernel_rfl) (by kernel_rfl) (fun _ _ => by kernel_rfl) (fun _ => by kernel_rfl) 62 #[.agg ca, .int .i64 6] (fun _ _ => by kernel_rfl) (R := fun v w' => ∃ c, v = .agg c ∧ RmA Qc w' c (nTr 6 x) P E) (fun wx hx => (HT.out 6 wx (he1.trans hx)).mono ?_) (fun p => #[true, true, true, true, false, p, false]) (fun p => by cases p <;> kernel_rfl) (fun vv t => ⟨#[.agg ca, .pointer (some ⟨H, 0, none⟩), .pointer (some ⟨H + 1, 0, none⟩), t, .agg ca, .agg c5, .agg ca, vv, undef, undef, undef, undef, undef, undef, undef, undef, undef, undef], []⟩) (fun _ _ => by kernel_rfl) ?_
    · rintro e w' ⟨c, rfl, n, hx'⟩; exact ⟨_, rfl, ⟨c, rfl, n⟩, hx'⟩
    rintro v w2x ⟨c7, rfl, n7⟩ hq2
    have he2 := he1.trans hq2
    refine Flo1.call hA0 HS he2 4 rfl (fun p => by cases p <;> kernel_rfl) (by kernel_rfl) (fun _ _ => by kernel_rfl) (fun _ => by kernel_rfl) 80 #[.agg c5, .agg c7] (fun _ _ => by kernel_rfl) (R := fun v w' => ∃ c z, v = .agg c ∧ RmA Qc w' c z (P + E + 1) E ∧ EqN z (nAdd (nTr 2 x) (nNeg (nTr 6 x)))) (fun wx hx => (QSub_nm c5 c7 (nTr 2 x) (nTr 6 x) P E wx ((n5.ext hq2).ext hx) (n7.ext hx) HP.out HEE.out (HLU.out.grow (he2.trans hx).size)).mono ?_) (fun p => #[true, true, true, true, true, p, false]) (fun p => by cases p <;> kernel_rfl) (fun vv t => ⟨#[.agg ca, .pointer (some ⟨H, 0, none⟩), .pointer (some ⟨H + 1, 0, none⟩), t, .agg ca, .agg c5, .agg ca, .agg c7, vv, undef, undef, undef, undef, undef, undef, undef, undef, undef], []⟩) (fun _ _ => by kernel_rfl) ?_
    · rintro e w' ⟨c, z, rfl, n, q, hx'⟩; exact ⟨_, rfl, ⟨c, z, rfl, n, q⟩, hx'⟩
    rintro v w3x ⟨c8, z8, rfl, n8, q8⟩ hq3
    have he3 := he2.trans hq3
    refine Flo1.done hA0 HS he3 (by kernel_rfl) (by kernel_rfl) (fun _ _ => by kernel_rfl) ?_
    intro wy hy D hD
    have hEy := he3.trans hy
    have n9 := n8.ext hy
    obtain ⟨c1, hr1, hs1, hone, hinf, rr, hzz, hE'⟩ := fin_rm (w := U) n9.val ⟨_, hD.2, zcs_zero (Qc := Qc) wy⟩ hEy hD.1
    refine anyH_one (i := 6) (by kernel_rfl) rfl (fun Kk hKk => ?_)
    refine stepK_storeR rfl rfl 59 _ _ rfl D c8 rfl rfl 59 _ hr1 hinf hs1 hone ?_
    refine hKk.out _ _ (HS _ hE') ?_
    clear hKk Kk
    refine wpAnyH_done (by kernel_rfl) ?_ _
    go_wp2_with fail
    go_meet
    exact ⟨D, c8, z8, rfl, rr, ⟨n9.anti, n9.low, n9.abs, n9.down, hzz⟩, q8.trans (n_sq x), hD.1, hE'⟩
  case rest =>
  obtain ⟨D, c, z, rfl, rD, nD, qD, hD, hxc⟩ := hcut
  obtain ⟨wo, hwo⟩ : ∃ wo, wo = wc := ⟨_, rfl⟩
  rw [← hwo] at rD nD hxc ⊢
  clear hwo
  have lZ := HZ0.out.lt
  have iD := nD.info
  obtain ⟨X, hX⟩ : ∃ X : Nat → Int, (fun i : Nat => z.a i) = X := ⟨_, rfl⟩
  have hv := nD.val
  rw [hX] at hv
  have HX := Lib.hid hX
  have HnD := Lib.hid nD; have HqD := Lib.hid qD; have HrD := Lib.hid rD; have Hxc := Lib.hid hxc; have HD := Lib.hid (show ¬ D = H + 1 ∧ U.heap.size ≤ D by omega)
  by_cases hz : zeroN X
  · have HQ := Lib.hid (QZero_any c X _ wo hv true (by simp [hz]))
    have Hz := Lib.hid hz
    clear hv hz nD qD hxc hD lZ hX
    go_wp2_with (refine wpList_load_row rfl 59 _ rfl (D) rfl 59 _ (0, 0) _ rD Tryd.underlying59 rfl iD ?_)
    refine HQ.out.mono ?_
    rintro r w2 ⟨rfl, hx2⟩
    have rD2 := (hx2.block _ (Array.getElem?_eq_some_iff.1 HrD.out).1).trans HrD.out
    have n2 := HnD.out.ext hx2
    obtain ⟨c1, hr1, hs1, hone, hinf, rr, hzz, hE'⟩ := fin_rm n2.val (HZ0.out.ext (Hxc.out.trans hx2)) (HE0.out.trans (Hxc.out.trans hx2)) (by rw [HH.out]; omega)
    have Hend := Lib.hid (show RmA Qc (w2.setRow (H + 1) c) c z (P + E + 1) (E + 1) ∧ EqN z (nHf x) ∧ Ext w (w2.setRow (H + 1) c) from
      ⟨⟨n2.anti, n2.low, n2.abs, Nat.le_succ_of_le n2.down, hzz⟩, eq_hf0 Hant.out HqD.out (zero_of_zeroN n2.anti (by rw [HX.out]; exact Hz.out)), hE'⟩)
    clear hzz hE' hx2 HQ n2 rD
    go_wp2_with (first
      | refine wpList_load_row rfl 59 _ rfl (D) rfl 59 _ (0, 0) _ rD2 Tryd.underlying59 rfl iD ?_
      | refine wpList_store_row rfl 59 _ _ rfl (H + 1) c rfl rfl 59 _ hr1 hinf hs1 hone ?_)
    refine bodyPost_ret (v := .agg c) ?_ rfl ⟨_, _, rfl, Hend.out⟩
    exact results_cell_row rfl _ _ (H + 1) _ _ _ _ rfl rr Tryd.underlying59 rfl hinf
  · have HQ := Lib.hid (QZero_any c X _ wo hv false (by simp [hz]))
    clear hv hz nD qD hxc hD lZ hX
    go_wp2_with (refine wpList_load_row rfl 59 _ rfl (D) rfl 59 _ (0, 0) _ rD Tryd.underlying59 rfl iD ?_)
    refine HQ.out.mono ?_
    rintro r w2 ⟨rfl, hx2⟩
    have rD2 := (hx2.block _ (Array.getElem?_eq_some_iff.1 HrD.out).1).trans HrD.out
    have n2 := HnD.out.ext hx2
    have hV : ZVar Qc w2 D (fun i => z.a i) (z.e : Int) := ⟨c, rD2, n2.val⟩
    have y16 := hV.gete.1; have g16 := hV.gete.2
    obtain ⟨e1, he1⟩ : ∃ e1 : Int, (z.e : Int) + 1 = e1 := ⟨_, rfl⟩
    have wr : IntKind.i64.wrap ((z.e : Int) + 1) = e1 := by have := n2.down; have := HEE.out; rw [IntKind.wrap_i64]; omega
    obtain ⟨hV2, hC2⟩ := hV.sete e1
    obtain ⟨w3, hw3⟩ : ∃ w3, w2.setCell ⟨D, 16, none⟩ (.int .i64 e1) = w3 := ⟨_, rfl⟩
    rw [hw3] at hV2 hC2
    have hX3 : Ext U w3 := hC2.ext (Hxc.out.trans hx2) HD.out.2
    obtain ⟨c3, r3, z3⟩ := hV2
    rw [← he1, show (z.e : Int) + 1 = ((z.e + 1 : Nat) : Int) by omega] at z3
    have i3 : (Tryd.prog.info? 59).map (·.size) = some c3.size := by rw [z3.1]; exact zR_info
    have HQ3 := Lib.hid (Qleast_any c3 _ (z.e + 1) w3 z3 (P + E + 1) (E + 1) HP.out (fun i _ => HnD.out.abs i) (by have := HnD.out.down; omega) (by have := HEE.out; omega))
    have HX3 := Lib.hid hX3; have Hw3 := Lib.hid hw3
    clear hX3 hw3 z3 hC2 hV n2 hx2 HQ rD he1
    go_upto_region 5 with fail
    rw [Hw3.out]
    clear Hw3 y16 g16 rD2
    go_wp2_with (refine wpList_load_row rfl 59 _ rfl (D) rfl 59 _ (0, 0) _ r3 Tryd.underlying59 rfl i3 ?_)
    refine HQ3.out.mono ?_
    rintro r w4 ⟨cr, y, rfl, hcr, hq4, hx4⟩
    obtain ⟨c1, hr1, hs1, hone, hinf, rr, hzz, hE'⟩ := fin_rm hcr.val (HZ0.out.ext (HX3.out.trans hx4)) (HE0.out.trans (HX3.out.trans hx4)) (by rw [HH.out]; omega)
    have Hend := Lib.hid (show RmA Qc (w4.setRow (H + 1) cr) cr y (P + E + 1) (E + 1) ∧ EqN y (nHf x) ∧ Ext w (w4.setRow (H + 1) cr) from
      ⟨⟨hcr.anti, hcr.low, hcr.abs, hcr.down, hzz⟩, (hq4.trans (EqN.of_eq (by rw [ext8_of HnD.out.anti]))).trans (eq_hf Hant.out HqD.out), hE'⟩)
    clear hcr hq4 hzz hE' hx4 HQ3 r3 i3
    go_wp2_with (refine wpList_store_row rfl 59 _ _ rfl (H + 1) cr rfl rfl 59 _ hr1 hinf hs1 hone ?_)
    refine bodyPost_ret (v := .agg cr) ?_ rfl ⟨_, _, rfl, Hend.out⟩
    exact results_cell_row rfl _ _ (H + 1) _ _ _ _ rfl rr Tryd.underlying59 rfl hinf

end Go.Proofs.YtlmfhopifggeaaaDoor
namespace Go.Proofs.YtlmfhopifggeaaaDoor
variable {Qc : Nat → Prop}
open Go.RowKit

structure GSt (Qc : Nat → Prop) (w wr : World) (H D b m : Nat) (c : Array Value) (s g : Nat → Nm) (P E : Nat) : Prop where
  src : RsAt Qc wr b m s P E
  out : RsAt Qc wr D m g P E
  box : wr.heap[H]? = some (.cells c 46 (0, 0))
  ext : Ext w wr
theorem GSt.more {w wr w' : World} {H D b m : Nat} {c : Array Value} {s g : Nat → Nm} {P E : Nat} (h : GSt Qc w wr H D b m c s g P E) (k : Ext wr w') : GSt Qc w w' H D b m c s g P E :=
  ⟨h.src.ext k, h.out.ext k, (k.block _ (Array.getElem?_eq_some_iff.1 h.box).1).trans h.box, h.ext.trans k⟩
theorem GSt.put {w wr : World} {H D b m : Nat} {c : Array Value} {s g g' : Nat → Nm} {P E : Nat} (h : GSt Qc w wr H D b m c s g P E) {x : Nat} {cr : Array Value} {z : Nm} (hx : x < m) (hz : RmA Qc wr cr z P E) (h1 : b ≠ D) (h2 : H ≠ D) (hD : w.heap.size ≤ D)
    (hg : ∀ y, g' y = if y = x then z else g y) : GSt Qc w (wr.setCells D (x * 17) cr.toList) H D b m c s g' P E := by
  obtain ⟨k1, k2⟩ := h.out.set hx hz
  exact ⟨h.src.chz k2 h.out.no h1, k1.congr (fun y _ => (hg y).symm), k2.row h.box h2, k2.ext h.ext hD⟩
theorem GSt.same {w wr : World} {H D b m : Nat} {c : Array Value} {s g g' : Nat → Nm} {P E : Nat} (h : GSt Qc w wr H D b m c s g P E) (hg : ∀ y, g' y = g y) : GSt Qc w wr H D b m c s g' P E :=
  ⟨h.src, h.out.congr (fun y _ => (hg y).symm), h.box, h.ext⟩
theorem GSt.chz {w wr w' : World} {H D b m g : Nat} {c : Array Value} {s f : Nat → Nm} {P E : Nat} (h : GSt Qc w wr H D b m c s f P E) (k : ChZ g wr w') (hg : NoI wr g) (h1 : b ≠ g) (h2 : D ≠ g) (h3 : H ≠ g) (h4 : w.heap.size ≤ g) : GSt Qc w w' H D b m c s f P E :=
  ⟨h.src.chz k hg h1, h.out.chz k hg h2, k.row h.box h3, k.ext h.ext h4⟩
theorem GSt.cell {w wr : World} {H D b m : Nat} {c : Array Value} {s g : Nat → Nm} {P E : Nat} (h : GSt Qc w wr H D b m c s g P E) (i : Nat) {v : Value} (hv : c[i]? = some v) : wr.cell? ⟨H, i, none⟩ = some v := by
  rw [cell_of_row wr H i c _ (0, 0) h.box, hv]
theorem R_size : (Tryd.prog.info? 59).map (·.size) = some 17 := by kernel_rfl
theorem zero_iff {w : World} {c : Array Value} {x : Nm} {P E : Nat} (h : RmA Qc w c x P E) : (zeroN fun i : Nat => x.a i) ↔ x = nZ :=
  ⟨fun g => zero_is h.low (zero_of_zeroN h.anti g), fun e i _ => by rw [e]; rfl⟩
theorem fl_ne (x : Nat) (q : Int) : fl x q ≠ x := fun e => by
  have := bt_fl x q
  rw [e] at this
  cases hb : bt x q <;> simp [hb] at this
theorem eq_z_add {z x : Nm} (hz : Low z) (hx : Low x) (h : EqN z (nAdd nZ x)) : z = x := (lw_one hz (h.trans (z_add x))).trans (lw_self hx)
end Go.Proofs.YtlmfhopifggeaaaDoor
