/-
  Gates and outcomes, done state by state as the program does them: they come to what a gate, an outcome is. Nothing of the program stands here. A round of a range over a function is walked as plain code is: what a region comes to in a plain frame it comes to in a round's, if no operation of it defers. The program: the ranging over basis states (states and its closure), for every loop's body. The program: a number as a wave has it: a pointer, nil for nought. The program: a wave in memory; the amplitude of a basis state. The program: one amplitude of a wave is written; the wave of a basis state. The program: a loop over basis states that works on a wave: what its body does to each state is done to all, one after the other. The program: turn. A region that draws its order and stores twice: what is held until number k has come up (S), what is held throughout (T).
-/
import Derived.Test.YtfjnlopbmkimiaaGreatDoorProg
import Derived.Test.YtfjnlopbmkimiaaGreatDoorRows
import Derived.BigQuiet
import Derived.Deep.AppendLies
import Derived.Deep.Cut
import Derived.Deep.CutRange
import Derived.Deep.LoopGhost
import Derived.Deep.MidRow
import Derived.Deep.QuietTactic
import Derived.Deep.RegionHeld3
import Derived.Ground.Names2Prog
import Derived.Laws.Bits64b
import Derived.Laws.CopyOwn
import Derived.Laws.IdiomCopy
import Derived.Laws.ResultCell
import Derived.Laws.Rows
import Derived.Lib.AppendIntMem
import Derived.Lib.AppendStr
import Derived.Lib.BitFns
import Derived.Lib.Hide
import Derived.Lib.ItoaMem
import Derived.Lib.ItoaNum
import Derived.Lib.Strings
import Derived.Lib.TrailingZeros
import Derived.LoopIn
import Derived.LoopNIn
import Derived.OrdersHeld
import Derived.OrdersIn
import Derived.OwnWalk
import Derived.OwnWalkIn
import Derived.ProofKit
import Derived.RangeFuncBound
import Derived.RangeFuncCalls
import Derived.RangeFuncFrom
import Derived.RangeFuncLeaves
import Derived.RegionTactic
import Derived.Shelf.Abstract
import Derived.Shelf.Bits.Mul64
import Derived.Shelf.LaysM
import Derived.Shelf.Slices.SearchI
import Derived.Shelf.Small.Bits
import Derived.Shelf.Small.Wraps
import Derived.Shelf.Spec.BitsCarry
import Derived.Shelf.Spec.TrailingZeros
import Derived.Shelf.Strconv.Itoa0
import Derived.Shelf.Strconv.Itoa1
import Derived.Shelf.Strconv.Itoa2
import Derived.Shelf.Strconv.Itoa3
import Derived.Shelf.Strings.Builder1
import Derived.Shelf.Strings.BuilderF
import Derived.Shelf.Strings.BuilderK
import Derived.TacticsInMore
import Derived.WalkKit
import Derived.WalkLawsBesides
import Derived.WalkSpells
import Derived.Test.YtfjnlopbmkimiaaGreatDoorS00Mem
import Derived.Test.YtfjnlopbmkimiaaGreatDoorShelf
import Derived.Test.YtfjnlopbmkimiaaGreatDoorS02ShiftI
import Derived.Test.YtfjnlopbmkimiaaGreatDoorS03GuessD
import Derived.Test.YtfjnlopbmkimiaaGreatDoorS04IntB
import Derived.Test.YtfjnlopbmkimiaaGreatDoorS05IntD
import Derived.Test.YtfjnlopbmkimiaaGreatDoorS06GcB
import Derived.Test.YtfjnlopbmkimiaaGreatDoorS07Rg
import Derived.Test.YtfjnlopbmkimiaaGreatDoorS08ZC
import Derived.Test.YtfjnlopbmkimiaaGreatDoorS09Bw
import Derived.Test.YtfjnlopbmkimiaaGreatDoorS10TxT
import Derived.Test.YtfjnlopbmkimiaaGreatDoorS11Xo
import Derived.Test.YtfjnlopbmkimiaaGreatDoorS12Xm
namespace Go.Proofs.YtfjnlopbmkimiaaGreatDoor

/-- The set of one qubit. -/
def q1 (q : Int) : Nat := 2 ^ q.toNat
theorem q1_bit (q : Int) (i : Nat) : (q1 q).testBit i = decide (q.toNat = i) := by unfold q1; exact Nat.testBit_two_pow
theorem msk_one (q : Int) : msk [q] = q1 q := by unfold msk q1; simp
theorem and_q1 (x : Nat) (q : Int) : x &&& q1 q = if bt x q then q1 q else 0 := by
  apply Nat.eq_of_testBit_eq
  intro i
  rw [Nat.testBit_and, q1_bit]
  unfold bt
  by_cases e : q.toNat = i
  · subst e
    cases h : x.testBit q.toNat
    · simp
    · simp [q1_bit]
  · cases h : x.testBit q.toNat <;> simp [q1_bit, e]
theorem q1_pos (q : Int) : 0 < q1 q := Nat.pow_pos (by decide)
/-- The next to a state in which the qubit is 0. -/
theorem or_q1 {x : Nat} {q : Int} (h : bt x q = false) : x ||| q1 q = fl x q := by
  apply Nat.eq_of_testBit_eq
  intro i
  unfold fl
  rw [Nat.testBit_or, q1_bit, Nat.testBit_xor, Nat.testBit_two_pow]
  unfold bt at h
  by_cases e : q.toNat = i
  · subst e; simp [h]
  · simp [e]
theorem msk_snd (l : List Int) (q : Int) : msk l ||| q1 q = msk (l ++ [q]) := by rw [msk_snoc]; rfl
theorem ons_snoc (x : Nat) (l : List Int) (q : Int) : ons x (l ++ [q]) = (ons x l && bt x q) := by unfold ons; simp [List.all_append]
theorem both_on {x : Nat} {l : List Int} {q : Int} : x &&& (msk l ||| q1 q) = msk l ||| q1 q ↔ ons x l = true ∧ bt x q = true := by
  rw [msk_snd, ← ons_msk, ons_snoc, Bool.and_eq_true_iff]
theorem msk_off {l : List Int} {q : Int} (h0 : 0 ≤ q) (h : ∀ c ∈ l, 0 ≤ c ∧ c ≠ q) : (msk l).testBit q.toNat = false := by
  rw [msk_bit, List.any_eq_false]
  intro c hc e
  have := h c hc
  have : c.toNat = q.toNat := by simpa using e
  omega
theorem one_off {x : Nat} {l : List Int} {q : Int} (hq : (msk l).testBit q.toNat = false) : x &&& (msk l ||| q1 q) = msk l ↔ ons x l = true ∧ bt x q = false := by
  rw [ons_msk]
  constructor
  · intro h
    constructor
    · apply Nat.eq_of_testBit_eq
      intro i
      have h1 := congrArg (fun z => z.testBit i) h
      simp only [Nat.testBit_and, Nat.testBit_or, q1_bit] at h1 ⊢
      by_cases e : q.toNat = i
      · subst e; simp [hq]
      · simp [e] at h1; simpa using h1
    · have h1 := congrArg (fun z => z.testBit q.toNat) h
      simp only [Nat.testBit_and, Nat.testBit_or, q1_bit, hq] at h1
      unfold bt
      simpa using h1
  · rintro ⟨h, hb⟩
    apply Nat.eq_of_testBit_eq
    intro i
    have h1 := congrArg (fun z => z.testBit i) h
    simp only [Nat.testBit_and, Nat.testBit_or, q1_bit] at h1 ⊢
    unfold bt at hb
    by_cases e : q.toNat = i
    · subst e; simp [hq, hb]
    · simp [e]; simpa using h1
theorem and_or_left (a b : Nat) : a &&& (a ||| b) = a := by
  apply Nat.eq_of_testBit_eq
  intro i
  rw [Nat.testBit_and, Nat.testBit_or]
  cases a.testBit i <;> simp
theorem onsFl {x : Nat} {l : List Int} {q : Int} (h0 : 0 ≤ q) (h : ∀ c ∈ l, 0 ≤ c ∧ c ≠ q) : ons (fl x q) l = ons x l := ons_fl (fun c hc => by have := h c hc; omega)

/-- What turn leaves. -/
def tuS (m : Nat) (k : Int) (n : Nat) (s : Nat → Nm) : Nat → Nm := (stL m m n).foldl (fun s x => up1 s x (nTr k (s x))) s
/-- What drop leaves. -/
def drS (o f n : Nat) (s : Nat → Nm) : Nat → Nm := (stL o f n).foldl (fun s x => up1 s x nZ) s
/-- What exchange leaves. -/
def exS (c q n : Nat) (s : Nat → Nm) : Nat → Nm := (stL c (c ||| q) n).foldl (fun s x => up2 s x (s (x ||| q)) (x ||| q) (s x)) s
/-- What mix leaves. -/
noncomputable def miS (c q n : Nat) (s : Nat → Nm) : Nat → Nm :=
  (stL c (c ||| q) n).foldl (fun s x => up2 s x (lw (nHf (nAdd (s x) (s (x ||| q))))) (x ||| q) (lw (nHf (nAdd (s x) (nNeg (s (x ||| q))))))) s
theorem tuS_at (m : Nat) (k : Int) (n : Nat) (s : Nat → Nm) {y : Nat} (hy : y < n) : tuS m k n s y = if y &&& m = m then nTr k (s y) else s y := by
  unfold tuS
  rw [fold1 (nTr k) _ (stL_nodup _ _ _)]
  by_cases h : y &&& m = m
  · rw [if_pos h, if_pos (stL_mem.2 ⟨hy, h⟩)]
  · rw [if_neg h, if_neg (fun e => h (stL_mem.1 e).2)]
theorem drS_at (o f n : Nat) (s : Nat → Nm) {y : Nat} (hy : y < n) : drS o f n s y = if y &&& f = o then nZ else s y := by
  unfold drS
  rw [fold1 (fun _ => nZ) _ (stL_nodup _ _ _)]
  by_cases h : y &&& f = o
  · rw [if_pos h, if_pos (stL_mem.2 ⟨hy, h⟩)]
  · rw [if_neg h, if_neg (fun e => h (stL_mem.1 e).2)]
section
variable {l : List Int} {q : Int} {n : Nat} {s : Nat → Nm}
/-- Two by two. -/
theorem pairs_at (F G : Nm → Nm → Nm) (h0 : 0 ≤ q) (hl : ∀ c ∈ l, 0 ≤ c ∧ c ≠ q) (hn : ∀ x, x < n → fl x q < n) {y : Nat} (hy : y < n) :
    (stL (msk l) (msk l ||| q1 q) n).foldl (fun s x => up2 s x (F (s x) (s (x ||| q1 q))) (x ||| q1 q) (G (s x) (s (x ||| q1 q)))) s y
      = if ons y l then (if bt y q then G (s (fl y q)) (s y) else F (s y) (s (fl y q))) else s y := by
  have hoff := msk_off h0 hl
  have hmem : ∀ x, x ∈ stL (msk l) (msk l ||| q1 q) n ↔ x < n ∧ ons x l = true ∧ bt x q = false := fun x => by rw [stL_mem, one_off hoff]
  have hp : ∀ x ∈ stL (msk l) (msk l ||| q1 q) n, x ||| q1 q = fl x q := fun x hx => or_q1 ((hmem x).1 hx).2.2
  obtain ⟨i1, i2, i3⟩ := fold2 F G (fun x => x ||| q1 q) (stL (msk l) (msk l ||| q1 q) n) (stL_nodup _ _ _)
    (fun x hx x' hx' e => by
      have h1 := ((hmem x).1 hx).2.2
      rw [e] at h1
      simp only [hp x' hx', bt_fl, ((hmem x').1 hx').2.2] at h1
      cases h1)
    (fun x hx x' hx' e => by
      simp only [hp x hx, hp x' hx'] at e
      rw [← fl_fl x q, e, fl_fl]) s
  by_cases h : ons y l = true
  · rw [if_pos h]
    by_cases hb : bt y q = true
    · rw [if_pos hb]
      have hx : fl y q ∈ stL (msk l) (msk l ||| q1 q) n := (hmem _).2 ⟨hn y hy, by rw [onsFl h0 hl]; exact h, by rw [bt_fl, hb]; rfl⟩
      have := i2 _ hx
      simp only [hp _ hx, fl_fl] at this
      exact this
    · rw [if_neg hb]
      have hb' : bt y q = false := by simpa using hb
      have hx : y ∈ stL (msk l) (msk l ||| q1 q) n := (hmem _).2 ⟨hy, h, hb'⟩
      have := i1 _ hx
      simp only [hp _ hx] at this
      exact this
  · rw [if_neg h]
    refine i3 y (fun hx => h ((hmem y).1 hx).2.1) (fun x hx e => h ?_)
    simp only [hp x hx] at e
    rw [e, onsFl h0 hl]
    exact ((hmem x).1 hx).2.1
end
theorem nAddC (x y : Nm) : nAdd x y = nAdd y x := by
  unfold nAdd
  congr 1
  · funext k; exact Int.add_comm _ _
  · exact Nat.add_comm _ _
section
variable {o : Gop} {n b : Nat} {s : Nat → Nm} {y : Nat}
theorem x_gt (hf : PlFit o n b) (hk : o.kind = 2) (hy : y < 2 ^ n) : exS (msk o.ctl) (q1 o.q) (2 ^ n) s y = gt o s y := by
  have hq := hf.q
  have := pairs_at (s := s) (fun _ b => b) (fun a _ => a) hq.1 (fun c hc => ⟨(hf.ctl c hc).1, hf.ne c hc⟩) (fun x hx => fl_lt hx (by omega)) hy
  unfold exS gt
  rw [this, hk]
  by_cases h : ons y o.ctl = true
  · rw [if_pos h, if_pos h]
    simp
  · rw [if_neg h, if_neg h]
theorem h_gt (hf : PlFit o n b) (hk : o.kind = 3) (hy : y < 2 ^ n) : miS (msk o.ctl) (q1 o.q) (2 ^ n) s y = gt o s y := by
  have hq := hf.q
  have := pairs_at (s := s) (fun a b => lw (nHf (nAdd a b))) (fun a b => lw (nHf (nAdd a (nNeg b)))) hq.1 (fun c hc => ⟨(hf.ctl c hc).1, hf.ne c hc⟩) (fun x hx => fl_lt hx (by omega)) hy
  unfold miS gt
  rw [this, hk]
  by_cases h : ons y o.ctl = true
  · rw [if_pos h, if_pos h]
    simp only [show ¬ ((3 : Int) = 1) by decide, show ¬ ((3 : Int) = 4) by decide, show ¬ ((3 : Int) = 2) by decide, if_false]
    by_cases hb : bt y o.q = true
    · rw [if_pos hb, if_pos hb]
    · rw [if_neg hb, if_neg hb, nAddC]
  · rw [if_neg h, if_neg h]
theorem p_gt (hk : o.kind = 4) (hy : y < 2 ^ n) : tuS (msk o.ctl ||| q1 o.q) o.k (2 ^ n) s y = gt o s y := by
  rw [tuS_at _ _ _ _ hy]
  unfold gt
  rw [hk]
  simp only [show ¬ ((4 : Int) = 1) by decide, if_false, if_true]
  by_cases h : ons y o.ctl = true
  · rw [if_pos h]
    by_cases hb : bt y o.q = true
    · rw [if_pos hb, if_pos (both_on.2 ⟨h, hb⟩)]
    · rw [if_neg hb, if_neg (fun e => hb (both_on.1 e).2)]
  · rw [if_neg h, if_neg (fun e => h (both_on.1 e).1)]
theorem ph_gt (hk : o.kind = 1) (hc : o.ctl = []) (hy : y < n) : tuS 0 o.k n s y = gt o s y := by
  rw [tuS_at _ _ _ _ hy]
  unfold gt
  rw [hk, hc]
  simp [ons]
theorem dr_oc {q v : Int} (hv : v = 0 ∨ v = 1) (hy : y < n) : drS (if 1 - v = 1 then q1 q else 0) (q1 q) n s y = oc q v s y := by
  rw [drS_at _ _ _ _ hy, and_q1]
  have := q1_pos q
  unfold oc
  rcases hv with rfl | rfl
  · cases hb : bt y q <;> simp <;> omega
  · cases hb : bt y q <;> simp <;> omega
end
theorem phase_free {o : Gop} {n b : Int} (h : opCode o n b = 0) (hk : o.kind = 1) : o.ctl = [] := by
  unfold opCode at h
  rw [hk] at h
  split at h
  · omega
  split at h
  · omega
  split at h
  · omega
  split at h
  · omega
  rename_i hc
  have : usesC 1 = false := rfl
  by_cases e : 0 < o.ctl.length
  · exact absurd ⟨e, this⟩ hc
  · exact List.eq_nil_of_length_eq_zero (by omega)

/-- How great what is left is. -/
theorem up1_amp {N : Nat} {s : Nat → Nm} {x : Nat} {z : Nm} (h : ∀ y, Amp N (s y)) (hz : Amp N z) (y : Nat) : Amp N (up1 s x z y) := by
  unfold up1
  split
  · exact hz
  · exact h y
end Go.Proofs.YtfjnlopbmkimiaaGreatDoor
namespace Go.Proofs.YtfjnlopbmkimiaaGreatDoor
open Go.RowKit

/-- The fence of a round. -/
abbrev Rnd (l : Nat) : Fence := Fence.wide.inRound l
def noDefer (ops : List Oper) : Bool := ops.all fun o => match o.op with | .defer _ => false | _ => true
theorem noDefer_spec {ops : List Oper} (h : noDefer ops = true) {o : Oper} (ho : o ∈ ops) : ∀ c, o.op ≠ .defer c := by
  intro c e
  have := List.all_eq_true.1 h o ho
  rw [e] at this
  cases this

section
variable {P : Program} {ops : Array Oper} {Q : Exit → Act → World → Prop} {l m : Nat}

theorem rows_round {row : String} {args : Array Value} {w : World} {R : Value → World → Prop} (h : Rows P row args w R) : RowsIn (Rnd l) m P row args w R := fun c cs _ => by
  obtain ⟨v, w', hr, hs⟩ := h c cs
  exact ⟨v, w', hr, stepsIn_wide.2 hs⟩
theorem oper_round {o : Oper} (hd : ∀ c, o.op ≠ .defer c) {K K' : Act → World → Prop} (hK : ∀ a w, K a w → K' a w) {a : Act} {w : World} (h : o.wp P a w K Q) : o.wpIn (Rnd l) m P a w K' Q := by
  refine ⟨fun _ _ => trivial, ?_⟩
  show o.uponIn (Rnd l) m P a K' Q ((o.semAt (some l) a.eval).run P w)
  rw [Oper.semAt_some l a.eval o hd]
  unfold Oper.wp at h
  generalize (execOp a.eval o).run P w = r at h ⊢
  have hdep : ∀ n : Nat, (Rnd l).depth.isSome = true → 1 ≤ n := fun n h => by cases h
  cases r with
  | ok x w' =>
    cases x with
    | value v => exact hK _ _ h
    | skip => exact hK _ _ h
    | defer d => exact hK _ _ h
    | enter f args =>
      refine ⟨hdep _, CallsIn.inRound l (callsIn_wide.2 (Calls.mono h ?_))⟩
      intro e w'' he
      cases e with
      | returned v => exact hK _ _ he
      | panicked c => exact he
      | outgrown => exact he
    | row rw args => exact ⟨hdep _, rows_round (Rows.mono h fun v w'' he => hK _ _ he)⟩
    | _ => exact h.elim
  | halt x w' =>
    cases x with
    | panic v => exact h
    | _ => exact h.elim

theorem list_round {lst : List Oper} (hd : noDefer lst = true) (hQ : ¬ LetsOut Q) : ∀ {a : Act} {w : World}, wpList P ops Q lst a w → wpListIn (Rnd l) m P ops Q lst a w := by
  induction lst with
  | nil => intro a w h; exact h
  | cons o rest ih =>
    intro a w h
    have hd2 : noDefer rest = true := by
      unfold noDefer at hd ⊢
      rw [List.all_cons] at hd
      exact (Bool.and_eq_true_iff.1 hd).2
    unfold wpList at h
    unfold wpListIn
    by_cases hw : Region.wanted o (yielded ops a.tmps) = true
    · rw [if_pos hw] at h ⊢
      rcases h with h | h
      · exact oper_round (noDefer_spec hd (by simp)) (fun a w => ih hd2) h
      · exact absurd h.2 hQ
    · rw [if_neg hw] at h ⊢
      exact ⟨fun _ _ => trivial, ih hd2 h⟩
theorem region_round {id : Nat} {lst : List Oper} {a : Act} {w : World} (hd : noDefer lst = true) (hQ : ¬ LetsOut Q) (h : wpList P lst.toArray Q lst a w) : (Code.region id lst.toArray false).wpIn (Rnd l) m P Q a w :=
  wpIn_region_lit (list_round hd hQ h)
theorem op_round (hd : noDefer ops.toList = true) (hQ : ¬ LetsOut Q) {i : Nat} {K K' : Act → World → Prop} (hK : ∀ a w, K a w → K' a w) {a : Act} {w : World} (h : wpOp P ops Q i K a w) : wpOpIn (Rnd l) m P ops Q i K' a w := by
  unfold wpOp at h
  unfold wpOpIn
  cases ho : ops[i]? with
  | none => rw [ho] at h; exact hK _ _ h
  | some o =>
    rw [ho] at h
    simp only at h ⊢
    have hm : o ∈ ops.toList := by
      have := Array.mem_of_getElem? ho
      simpa using this
    by_cases hw : Region.wanted o (yielded ops a.tmps) = true
    · rw [if_pos hw] at h ⊢
      rcases h with h | h
      · exact oper_round (noDefer_spec hd hm) hK h
      · exact absurd h.2 hQ
    · rw [if_neg hw] at h ⊢
      exact ⟨fun _ _ => trivial, hK _ _ h⟩
theorem any_round {md : Region.Mode} (hd : noDefer ops.toList = true) (hQ : ¬ LetsOut Q) : ∀ (n : Nat) (lst : Array Bool) (a : Act) (w : World), wpAny P md ops Q n lst a w → wpAnyIn (Rnd l) m P md ops Q n lst a w
  | 0, _, _, _, h => h
  | n + 1, _, _, _, h => ⟨h.1, fun i hi => op_round hd hQ (fun a w => any_round hd hQ n _ a w) (h.2 i hi)⟩
theorem region_round_any {id : Nat} {a : Act} {w : World} (hm : P.follows .mixedOrders = true) (hd : noDefer ops.toList = true) (hQ : ¬ LetsOut Q)
    (h : wpAny P .any ops Q ops.size (Array.replicate ops.size false) a w.drew) : (Code.region id ops true).wpIn (Rnd l) m P Q a w :=
  wpIn_region_any hm (any_round hd hQ _ _ _ _ h)
theorem then_shut {K : Act → World → Prop} (h : ¬ LetsOut Q) : ¬ LetsOut (Exit.then K Q) := fun ⟨a, w, g⟩ => h ⟨a, w, g⟩
end
end Go.Proofs.YtfjnlopbmkimiaaGreatDoor
namespace Go.Proofs.YtfjnlopbmkimiaaGreatDoor
open Go.RowKit Go.Shelf
attribute [local go_sem] Oper.semAt_some

theorem andN_le (t f : Nat) : andN t f ≤ t := by
  have h : andN t f &&& t = andN t f := by
    apply Nat.eq_of_testBit_eq
    intro i
    rw [Nat.testBit_and, andN_bit]
    cases t.testBit i <;> simp
  rw [← h]; exact Nat.and_le_right
theorem andN_i64 (x y : Nat) (hx : x < 1048576) (hy : y < 1048576) : bits .andNot .i64 (x : Int) (y : Int) = ((andN x y : Nat) : Int) := by
  show IntKind.i64.wrap ((BitVec.ofInt 64 (x : Int) &&& ~~~ BitVec.ofInt 64 (y : Int)).toNat : Int) = _
  have h1 := ofInt_toNat (x : Int); have h2 := ofInt_toNat (y : Int)
  have h3 : (BitVec.ofInt 64 (x : Int)).toNat = x := by omega
  have h4 : (BitVec.ofInt 64 (y : Int)).toNat = y := by omega
  have key : (BitVec.ofInt 64 (x : Int) &&& ~~~ BitVec.ofInt 64 (y : Int)).toNat = andN x y := by
    apply Nat.eq_of_testBit_eq
    intro i
    rw [andN_bit, ← BitVec.getLsbD, BitVec.getLsbD_and, BitVec.getLsbD_not]
    unfold BitVec.getLsbD
    rw [h3, h4]
    by_cases hi : i < 64
    · simp [hi]
    · have : x.testBit i = false := Nat.testBit_lt_two_pow (Nat.lt_of_lt_of_le hx (Nat.le_trans (by decide) (Nat.pow_le_pow_right (n := 2) (by decide) (show 20 ≤ i by omega))))
      simp [this]
  rw [key, IntKind.wrap_i64]
  have := andN_le x y
  omega
/-- A basis state whose qubits of f are as o says. -/
abbrev St (o f n : Nat) : Type := { x : Nat // x < n ∧ x &&& f = o }
/-- All but block b, of what lay below n0, is as it was. -/
def KpB (b n0 : Nat) (W W' : World) : Prop := ∀ k, k ≠ b → k < n0 → W'.heap[k]? = W.heap[k]?
theorem KpB.refl (b n0 : Nat) (W : World) : KpB b n0 W W := fun _ _ _ => rfl
theorem KpB.trans {b n0 : Nat} {A B C : World} (h : KpB b n0 A B) (k : KpB b n0 B C) : KpB b n0 A C := fun i h1 h2 => (k i h1 h2).trans (h i h1 h2)
theorem KpB.cell {b n0 : Nat} {A B : World} (h : KpB b n0 A B) {g o : Nat} (h1 : g ≠ b) (h2 : g < n0) : B.cell? ⟨g, o, none⟩ = A.cell? ⟨g, o, none⟩ := World.cell?_of_block (a := ⟨g, o, none⟩) (h g h1 h2)

set_option maxRecDepth 100000 in
set_option maxHeartbeats 2000000 in
theorem states1_in (m l : Nat) (o f n b n0 Bo Bw Bf : Nat) (ao : Option Addr) (cp : Nat) (J Jx : List (St o f n) → World → Prop)
    (ho : o &&& f = o) (hn : n ≤ 4096) (hf : f < 4096) (b1 : Bo ≠ b ∧ Bo < n0) (b2 : Bw ≠ b ∧ Bw < n0) (b3 : Bf ≠ b ∧ Bf < n0)
    (hY : ∀ pre x W, J pre W → pre.length < n → YieldAt Fence.wide (m - 1) Tryz.prog l #[.int .i64 ((x : St o f n).1 : Int)] W fun e W' =>
      (e = .returned (.bool true) ∧ J (pre ++ [x]) W' ∧ KpB b n0 W W') ∨ (e = .returned (.bool false) ∧ Jx (pre ++ [x]) W'))
    (W : World) (c1 : W.cell? ⟨Bo, 0, none⟩ = some (.int .i64 (o : Int))) (c2 : W.cell? ⟨Bw, 0, none⟩ = some (.slice ao n cp)) (c3 : W.cell? ⟨Bf, 0, none⟩ = some (.int .i64 (f : Int))) (h0 : J [] W) :
    CallsIn Fence.wide m Tryz.prog 160 #[.func (.yield l) #[] #[], .pointer (some ⟨Bo, 0, none⟩), .pointer (some ⟨Bw, 0, none⟩), .pointer (some ⟨Bf, 0, none⟩)] W fun e W' => (∃ v, e = .returned v) ∧
      ((∃ xs : List (St o f n), xs.map (·.1) = stL o f n ∧ J xs W') ∨ (∃ pre : List (St o f n), True ∧ Jx pre W')) := by
  have ho4 : o ≤ f := by rw [← ho]; exact Nat.and_le_right
  refine callsIn_of_wp Tryz.func160 rfl trivial ?_ rfl
  simp only [Tryz.ntmps160, List.size_toArray, List.length_cons, List.length_nil, Nat.reduceAdd, Nat.reduceSub, Array.replicate_succ, Array.replicate_zero, List.push_toArray, List.append_toArray, List.nil_append, List.cons_append]
  gi_wp2
  gi_loopw [5] (fun p wr => ∃ (y : Nat) (pre : List (St o f n)), p = .int .i64 (y : Int) ∧ y < 8193 ∧ y &&& f = o ∧ pre.map (·.1) = stL o f (min y n) ∧ J pre wr ∧ KpB b n0 W wr)
    (fun p _ => 8193 - (intOf p).toNat)
  case atStart =>
    refine ⟨o, [], rfl, by omega, ho, ?_, h0, KpB.refl _ _ _⟩
    have h1 : stL o f o = [] := stL_first
    have h2 : stL o f (min o n) <+: stL o f o := by
      have : min o n ≤ o := Nat.min_le_left _ _
      obtain ⟨d, hd⟩ : ∃ d, o = min o n + d := ⟨o - min o n, by omega⟩
      have h3 := stL_gap (o := o) (f := f) (a := min o n) d (fun x _ hx e => by have := first_least e; omega)
      rw [← hd] at h3
      rw [h3]
      exact List.prefix_rfl
    rw [h1] at h2
    rw [List.prefix_nil.1 h2]; rfl
  case round =>
    obtain ⟨y, pre, rfl, hy, hyf, hp, hJs, hk⟩ := hrel
    have d1 := (hk.cell (o := 0) b1.1 b1.2).trans c1
    have d2 := (hk.cell (o := 0) b2.1 b2.2).trans c2
    have d3 := (hk.cell (o := 0) b3.1 b3.2).trans c3
    by_cases hlt : y < n
    · have hlen : pre.length < n := by
        have h1 : (pre.map (·.1)).length = pre.length := List.length_map _
        rw [hp] at h1
        have := stL_len o f (min y n)
        omega
      obtain ⟨fn, tmps, assign, body, hyy, hR⟩ := hY pre ⟨y, hlt, hyf⟩ wr hJs hlen
      dsimp only at hyy
      have q1 : (y : Int) < (n : Int) := by omega
      gi_wp2
      refine ⟨fun h => (by cases h), ?_⟩
      refine hR.mono ?_
      rintro e W3 (⟨rfl, hJ3, hk3⟩ | ⟨rfl, hJx3⟩)
      · have e1 := (hk3.cell (o := 0) b1.1 b1.2).trans d1
        have e3 := (hk3.cell (o := 0) b3.1 b3.2).trans d3
        obtain ⟨t1, ht1⟩ : ∃ t, y ||| f = t := ⟨_, rfl⟩
        have l1 : t1 < 4096 := by rw [← ht1]; exact Nat.or_lt_two_pow (n := 12) (by omega) hf
        have g1 : bits .or .i64 (y : Int) (f : Int) = (t1 : Int) := by rw [or_i64 y f (by omega) (by omega), ht1]
        have g2 : IntKind.i64.wrap ((t1 : Int) + 1) = ((t1 + 1 : Nat) : Int) := by rw [IntKind.wrap_i64]; omega
        obtain ⟨t2, ht2⟩ : ∃ t, t1 + 1 = t := ⟨_, rfl⟩
        rw [ht2] at g2
        obtain ⟨t3, ht3⟩ : ∃ t, andN t2 f = t := ⟨_, rfl⟩
        have l3 : t3 ≤ 4096 := by rw [← ht3]; exact Nat.le_trans (andN_le _ _) (by omega)
        have g3 : bits .andNot .i64 (t2 : Int) (f : Int) = (t3 : Int) := by rw [andN_i64 t2 f (by omega) (by omega), ht3]
        obtain ⟨t4, ht4⟩ : ∃ t, t3 ||| o = t := ⟨_, rfl⟩
        have g4 : bits .or .i64 (t3 : Int) (o : Int) = (t4 : Int) := by rw [or_i64 t3 o (by omega) (by omega), ht4]
        have l4 : t4 < 8192 := by rw [← ht4]; exact Nat.or_lt_two_pow (n := 13) (by omega) (by omega)
        have hnx : nxt o f y = t4 := by unfold nxt; rw [ht1, ht2, ht3, ht4]
        have hgt : y < t4 := by rw [← hnx]; exact nxt_gt ho hyf
        have Hr := Lib.hid (show ∃ (y' : Nat) (pre' : List (St o f n)), Value.int .i64 (t4 : Int) = .int .i64 (y' : Int) ∧ y' < 8193 ∧ y' &&& f = o ∧ pre'.map (·.1) = stL o f (min y' n) ∧ J pre' W3 ∧ KpB b n0 W W3 from ⟨t4, pre ++ [⟨y, hlt, hyf⟩], rfl, by omega, by rw [← hnx]; exact nxt_in ho y, by
            rw [List.map_append, hp, Nat.min_eq_left (by omega : y ≤ n)]
            exact (stL_next ho hyf (m := min t4 n) (by omega) (by rw [hnx]; exact Nat.min_le_left _ _)).symm, hJ3, hk.trans hk3⟩)
        have Hm := Lib.hid hgt
        have Hl := Lib.hid l4
        clear hgt hnx ht1 ht2 ht3 ht4 l1 l3 l4 hk hk3 hJ3 hp hJs hlen hyf hyy hR hY
        gi_wp2
        go_roundw
        case rel => exact Hr.out
        case measure => have := Hm.out; have := Hl.out; simp [intOf]; omega
      · gi_wp2
        refine bodyPost_ret (results_none rfl _ _ _) rfl ?_
        exact ⟨⟨_, rfl⟩, .inr ⟨_, trivial, hJx3⟩⟩
    · have q1 : ¬ (y : Int) < (n : Int) := by omega
      have Hp := Lib.hid (show pre.map (·.1) = stL o f n by rw [hp, Nat.min_eq_right (by omega)])
      have HJ := Lib.hid hJs
      clear hp hJs hk
      gi_wp2
      go_end0
      exact ⟨⟨_, rfl⟩, .inl ⟨pre, Hp.out, HJ.out⟩⟩
/-- The ranging, for every loop's body. -/
theorem states_stops (m : Nat) (o f n b n0 Bo Bw Bf : Nat) (ao : Option Addr) (cp : Nat) (w : World)
    (ho : o &&& f = o) (hn : n ≤ 4096) (hf : f < 4096) (b1 : Bo ≠ b ∧ Bo < n0) (b2 : Bw ≠ b ∧ Bw < n0) (b3 : Bf ≠ b ∧ Bf < n0) (hn0 : n0 ≤ w.heap.size)
    (c1 : w.cell? ⟨Bo, 0, none⟩ = some (.int .i64 (o : Int))) (c2 : w.cell? ⟨Bw, 0, none⟩ = some (.slice ao n cp)) (c3 : w.cell? ⟨Bf, 0, none⟩ = some (.int .i64 (f : Int))) :
    SeqStopsK Fence.wide m Tryz.prog 160 #[.pointer (some ⟨Bo, 0, none⟩), .pointer (some ⟨Bw, 0, none⟩), .pointer (some ⟨Bf, 0, none⟩)] (fun x : St o f n => #[Value.int .i64 (x.1 : Int)]) (KpB b n0)
      (fun xs => xs.map (·.1) = stL o f n) (fun _ => True) n w := fun l J Jx W hW _ _ hY h0 =>
  states1_in m l o f n b n0 Bo Bw Bf ao cp J Jx ho hn hf b1 b2 b3 hY W
    ((hW.cell (p := ⟨Bo, 0, none⟩) (by have := b1.2; show Bo < _; omega)).trans c1) ((hW.cell (p := ⟨Bw, 0, none⟩) (by have := b2.2; show Bw < _; omega)).trans c2) ((hW.cell (p := ⟨Bf, 0, none⟩) (by have := b3.2; show Bf < _; omega)).trans c3) h0

theorem new1 (w : World) (v : Value) (t : TypeId) : (w.alloc (.cells #[v] t)).cell? ⟨w.heap.size, 0, none⟩ = some v := by
  rw [cell_of_row _ _ 0 _ _ (0, 0) (heap_alloc_new w _)]; rfl
theorem old1 {w : World} {g o : Nat} {v : Value} (h : w.cell? ⟨g, o, none⟩ = some v) (x : Obj) : (w.alloc x).cell? ⟨g, o, none⟩ = some v :=
  (((Below.refl _ w).alloc (Nat.le_refl _) x).cell (p := ⟨g, o, none⟩) (World.block_lt_of_cell? w ⟨g, o, none⟩ h)).trans h

set_option maxRecDepth 100000 in
set_option maxHeartbeats 2000000 in
/-- states hands back its closure. -/
theorem states_any (ao : Option Addr) (n cp o q : Nat) (w : World) (ho : o < 4096) (hq : q < 4096) :
    Calls Tryz.prog 141 #[.slice ao n cp, .int .i64 (o : Int), .int .i64 (q : Int)] w fun e w' => ∃ Bo Bw Bf,
      e = .returned (.func (.func 160) #[] #[.pointer (some ⟨Bo, 0, none⟩), .pointer (some ⟨Bw, 0, none⟩), .pointer (some ⟨Bf, 0, none⟩)]) ∧ Ext w w' ∧
      w'.cell? ⟨Bo, 0, none⟩ = some (.int .i64 (o : Int)) ∧ w'.cell? ⟨Bw, 0, none⟩ = some (.slice ao n cp) ∧ w'.cell? ⟨Bf, 0, none⟩ = some (.int .i64 ((o ||| q : Nat) : Int)) ∧
      (w.heap.size ≤ Bo ∧ Bo < w'.heap.size) ∧ (w.heap.size ≤ Bw ∧ Bw < w'.heap.size) ∧ (w.heap.size ≤ Bf ∧ Bf < w'.heap.size) := by
  obtain ⟨t, ht⟩ : ∃ t, o ||| q = t := ⟨_, rfl⟩
  have g1 : bits .or .i64 (o : Int) (q : Int) = (t : Int) := by rw [or_i64 o q (by omega) (by omega), ht]
  rw [ht]
  clear ht ho hq
  go_enter Tryz.func141, Tryz.ntmps141
  go_wp2_with fail
  go_ret
  have a1 := new1 w (.slice ao n cp) 66
  have a2 := new1 (w.alloc (.cells #[.slice ao n cp] 66)) (.int .i64 (o : Int)) 3
  have a3 := new1 ((w.alloc (.cells #[.slice ao n cp] 66)).alloc (.cells #[.int .i64 (o : Int)] 3)) (.int .i64 (t : Int)) 3
  simp only [World.size_alloc] at a2 a3
  exact ⟨_, _, _, rfl, ((Below.refl _ w).alloc (Nat.le_refl _) _).trans (((Below.refl _ _).alloc (by simp only [World.size_alloc]; omega) _).trans ((Below.refl _ _).alloc (by simp only [World.size_alloc]; omega) _)), old1 a2 _, old1 (old1 a1 _) _, a3, ⟨by omega, by simp only [World.size_alloc]; omega⟩, ⟨by omega, by simp only [World.size_alloc]; omega⟩, ⟨by omega, by simp only [World.size_alloc]; omega⟩⟩
end Go.Proofs.YtfjnlopbmkimiaaGreatDoor
namespace Go.Proofs.YtfjnlopbmkimiaaGreatDoor
open Go.RowKit

/-- A pointer to a number of circuits, or nil for nought. -/
def PtA (w : World) (p : Option Addr) (x : Nm) (P E : Nat) : Prop :=
  (p = none ∧ x = nZ) ∨ ∃ (g : Nat) (c : Array Value), p = some ⟨g, 0, none⟩ ∧ w.heap[g]? = some (.cells c 78 (0, 0)) ∧ NmA w c x P E ∧ x ≠ nZ
theorem PtA.ext {w w' : World} {p : Option Addr} {x : Nm} {P E : Nat} (h : PtA w p x P E) (k : Ext w w') : PtA w' p x P E := by
  rcases h with h | ⟨g, c, h1, h2, h3, h4⟩
  · exact Or.inl h
  · exact Or.inr ⟨g, c, h1, (k.block _ (Array.getElem?_eq_some_iff.1 h2).1).trans h2, h3.ext k, h4⟩
theorem PtA.zero (w : World) (P E : Nat) : PtA w none nZ P E := Or.inl ⟨rfl, rfl⟩
theorem nm_nought {w : World} {c : Array Value} {x : Nm} {P E : Nat} (h : NmA w c x P E) : (∀ k, x.a k = 0) ↔ x = nZ :=
  ⟨fun g => zero_is h.low g, fun e k => by rw [e]; rfl⟩

set_option maxRecDepth 100000 in
set_option maxHeartbeats 2000000 in
theorem kept_any (ca : Array Value) (x : Nm) (P E : Nat) (w : World) (h : NmA w ca x P E) :
    Calls Tryz.prog 115 #[.agg ca] w fun e w' => ∃ p, e = .returned (.pointer p) ∧ PtA w' p x P E ∧ Ext w w' := by
  obtain ⟨H, hH⟩ : ∃ H, w.heap.size = H := ⟨_, rfl⟩
  obtain ⟨U, hU⟩ : ∃ U, w.alloc (.cells ca 78) = U := ⟨_, rfl⟩
  have hEU : Ext w U := by rw [← hU]; exact ext_alloc _ _
  have hr : U.heap[H]? = some (.cells ca 78 (0, 0)) := by rw [← hU, ← hH]; exact heap_alloc_new w _
  have hN := h.ext hEU
  have hinf := h.info
  have HU := Lib.hid hU; have HH := Lib.hid hH; have HEU := Lib.hid hEU; have HN := Lib.hid hN
  clear hU hH hEU hN h
  by_cases hz : x = nZ
  · have HZ := Lib.hid (Zero_nm ca x P E U HN.out true ⟨fun _ => (nm_nought HN.out).2 hz, fun _ => rfl⟩)
    have Hz := Lib.hid hz
    clear hz
    go_enter Tryz.func115, Tryz.ntmps115
    go_upto_region 1 with fail
    rw [HU.out, HH.out]
    go_wp2_with (refine wpList_load_row rfl 78 _ rfl H rfl 78 _ (0, 0) _ hr Tryz.underlying78 rfl hinf ?_)
    refine HZ.out.mono ?_
    rintro e w1 ⟨rfl, hx⟩
    have Hend := Lib.hid (show PtA w1 none x P E ∧ Ext w w1 from ⟨Or.inl ⟨rfl, Hz.out⟩, HEU.out.trans hx⟩)
    clear hx hr hinf HZ HU
    go_wp2_with fail
    go_ret
    exact ⟨_, rfl, Hend.out⟩
  · have HZ := Lib.hid (Zero_nm ca x P E U HN.out false ⟨fun g => by simp at g, fun g => absurd ((nm_nought HN.out).1 g) hz⟩)
    have Hz := Lib.hid hz
    clear hz
    go_enter Tryz.func115, Tryz.ntmps115
    go_upto_region 1 with fail
    rw [HU.out, HH.out]
    go_wp2_with (refine wpList_load_row rfl 78 _ rfl H rfl 78 _ (0, 0) _ hr Tryz.underlying78 rfl hinf ?_)
    refine HZ.out.mono ?_
    rintro e w1 ⟨rfl, hx⟩
    have Hend := Lib.hid (show PtA w1 (some ⟨H, 0, none⟩) x P E ∧ Ext w w1 from ⟨Or.inr ⟨H, ca, rfl, (hx.block _ (Array.getElem?_eq_some_iff.1 hr).1).trans hr, HN.out.ext hx, Hz.out⟩, HEU.out.trans hx⟩)
    clear hx hr hinf HZ HU
    go_wp2_with fail
    go_ret
    exact ⟨_, rfl, Hend.out⟩
end Go.Proofs.YtfjnlopbmkimiaaGreatDoor
namespace Go.Proofs.YtfjnlopbmkimiaaGreatDoor
open Go.RowKit

/-- A wave of n amplitudes: block b. -/
structure WvAt (w : World) (b n : Nat) (s : Nat → Nm) (P E : Nat) : Prop where
  row : ∃ cs, w.heap[b]? = some (.cells cs 105 (0, 0)) ∧ cs.size = n ∧ ∀ x, x < n → ∃ p, cs[x]? = some (.pointer p) ∧ PtA w p (s x) P E
theorem WvAt.lt {w : World} {b n : Nat} {s : Nat → Nm} {P E : Nat} (h : WvAt w b n s P E) : b < w.heap.size := by
  obtain ⟨cs, h1, _⟩ := h.row
  exact (Array.getElem?_eq_some_iff.1 h1).1
theorem WvAt.ext {w w' : World} {b n : Nat} {s : Nat → Nm} {P E : Nat} (h : WvAt w b n s P E) (k : Ext w w') : WvAt w' b n s P E := by
  have hl := h.lt
  obtain ⟨cs, h1, h2, h3⟩ := h.row
  refine ⟨cs, (k.block _ hl).trans h1, h2, fun x hx => ?_⟩
  obtain ⟨p, g1, g2⟩ := h3 x hx
  exact ⟨p, g1, g2.ext k⟩
/-- One of them. -/
theorem WvAt.get {w : World} {b n : Nat} {s : Nat → Nm} {P E : Nat} (h : WvAt w b n s P E) {x : Nat} (hx : x < n) : ∃ p, w.cell? ⟨b, x, none⟩ = some (.pointer p) ∧ w.frozen? ⟨b, x, none⟩ = false ∧ PtA w p (s x) P E := by
  obtain ⟨cs, h1, h2, h3⟩ := h.row
  obtain ⟨p, g1, g2⟩ := h3 x hx
  exact ⟨p, by rw [cell_of_row w b x cs _ (0, 0) h1]; exact g1, frozen_of_row w b x _ _ h1, g2⟩
theorem nm_zero9 (w : World) (P E : Nat) : NmA w zero9 nZ P E :=
  ⟨anti_nZ, low_nZ, fun _ => Nat.pow_pos (by decide), Nat.zero_le _, (cells_zero9 w).congr fun i hi => by unfold nmF nZ; simp⟩

set_option maxRecDepth 100000 in
set_option maxHeartbeats 2000000 in
theorem at_any (s : Nat → Nm) (m b cp x : Nat) (P E : Nat) (w : World) (h : WvAt w b m s P E) (hx : x < m) :
    Calls Tryz.prog 54 #[.slice (some ⟨b, 0, none⟩) m cp, .int .i64 (x : Int)] w fun e w' => ∃ c, e = .returned (.agg c) ∧ NmA w' c (s x) P E ∧ Ext w w' := by
  obtain ⟨H, hH⟩ : ∃ H, w.heap.size = H := ⟨_, rfl⟩
  obtain ⟨U, hU⟩ : ∃ U, w.alloc (.cells zero9 78) = U := ⟨_, rfl⟩
  have hEU : Ext w U := by rw [← hU]; exact ext_alloc _ _
  have z0 : Nums U H 9 78 (fun _ => 0) := by rw [← hU, ← hH]; exact (cells_zero9 w).box _
  obtain ⟨p, y0, _, hp⟩ := (h.ext hEU).get hx
  have q0 : (0 : Int) ≤ (x : Int) := by omega
  have q1 : (x : Int) < (m : Int) := by omega
  have HU := Lib.hid hU; have HH := Lib.hid hH
  rcases hp with ⟨rfl, hz⟩ | ⟨g, c, rfl, hr, hN, hz⟩
  · obtain ⟨c1, hr1, hs1, hone, hinf, rr, hN, hE⟩ := fin_num (w := w) (nm_zero9 U P E) z0 hEU (by rw [hH]; exact Nat.le_refl _)
    have Hend := Lib.hid (show NmA (U.setRow H zero9) zero9 (s x) P E ∧ Ext w (U.setRow H zero9) from ⟨by rw [hz]; exact hN, hE⟩)
    clear hU hH hEU z0 h hx hz hN hE
    go_enter Tryz.func54, Tryz.ntmps54
    go_upto_region 1 with fail
    rw [HU.out, HH.out]
    go_wp2_with (refine wpList_store_row rfl 78 _ _ rfl H zero9 rfl rfl 78 _ hr1 hinf hs1 hone ?_)
    refine bodyPost_ret (v := .agg zero9) ?_ rfl ⟨_, rfl, Hend.out⟩
    exact results_cell_row rfl _ _ H _ _ _ _ rfl rr Tryz.underlying78 rfl hinf
  · obtain ⟨c1, hr1, hs1, hone, hinf, rr, hN', hE⟩ := fin_num (w := w) hN z0 hEU (by rw [hH]; exact Nat.le_refl _)
    have Hend := Lib.hid (show NmA (U.setRow H c) c (s x) P E ∧ Ext w (U.setRow H c) from ⟨hN', hE⟩)
    clear hU hH hEU z0 h hx hz hN hN' hE
    go_enter Tryz.func54, Tryz.ntmps54
    go_upto_region 1 with fail
    rw [HU.out, HH.out]
    go_wp2_with (first | refine wpList_load_row rfl 78 _ rfl g rfl 78 _ (0, 0) _ hr Tryz.underlying78 rfl hinf ?_ | refine wpList_store_row rfl 78 _ _ rfl H c rfl rfl 78 _ hr1 hinf hs1 hone ?_)
    refine bodyPost_ret (v := .agg c) ?_ rfl ⟨_, rfl, Hend.out⟩
    exact results_cell_row rfl _ _ H _ _ _ _ rfl rr Tryz.underlying78 rfl hinf
end Go.Proofs.YtfjnlopbmkimiaaGreatDoor
namespace Go.Proofs.YtfjnlopbmkimiaaGreatDoor
open Go.RowKit

theorem PtA.put {w : World} {p : Option Addr} {x : Nm} {P E b i : Nat} {cs : Array Value} {v : Value} (h : PtA w p x P E) (hb : w.heap[b]? = some (.cells cs 105 (0, 0))) (hk : Keep64 w (w.setCell ⟨b, i, none⟩ v)) : PtA (w.setCell ⟨b, i, none⟩ v) p x P E := by
  rcases h with h | ⟨g, c, h1, h2, h3, h4⟩
  · exact Or.inl h
  · have hne : g ≠ b := fun e => by
      subst e
      rw [hb] at h2
      simp at h2
    refine Or.inr ⟨g, c, h1, ?_, h3.keep64 hk, h4⟩
    rw [Below.heap_setCell _ _ _ _ (fun e => hne e)]
    exact h2
/-- One of them is written. -/
theorem WvAt.set {w : World} {b n : Nat} {s : Nat → Nm} {P E : Nat} (h : WvAt w b n s P E) {x : Nat} (hx : x < n) {p : Option Addr} {z : Nm} (hz : PtA w p z P E) :
    WvAt (w.setCell ⟨b, x, none⟩ (.pointer p)) b n (fun y => if y = x then z else s y) P E ∧ Keep64 w (w.setCell ⟨b, x, none⟩ (.pointer p)) := by
  obtain ⟨cs, h1, h2, h3⟩ := h.row
  have hnw : NotW w ⟨b, x, none⟩ := by
    obtain ⟨q, g1, _⟩ := h3 x hx
    exact ⟨_, by rw [cell_of_row w b x cs _ (0, 0) h1, g1], fun _ h => by cases h⟩
  have hk := (Keep64.refl w).set hnw (.pointer p)
  refine ⟨⟨cs.setIfInBounds x (.pointer p), heap_setCell_same w b x cs _ _ h1, by simpa using h2, fun y hy => ?_⟩, hk⟩
  by_cases e : y = x
  · subst e
    refine ⟨p, by rw [Array.getElem?_setIfInBounds_self_of_lt (by omega)], ?_⟩
    rw [if_pos rfl]
    exact hz.put h1 hk
  · obtain ⟨q, g1, g2⟩ := h3 y hy
    refine ⟨q, by rw [Array.getElem?_setIfInBounds_ne (fun e' => e e'.symm)]; exact g1, ?_⟩
    rw [if_neg e]
    exact g2.put h1 hk
theorem P_info : (Tryz.prog.info? 105).map (fun i => (i.zero, i.size, i.bytes)) = some (some (.pointer none), 1, 8) := by kernel_rfl
/-- 'make(wave, n)'. -/
theorem wpList_make_W (w : World) {ops : Array Oper} {rest : List Oper} {o : Oper} {a : Act} {Q : Exit → Act → World → Prop}
    (hg : o.guard = none) (l c : Operand) (hop : o.op = Op.makeSlice 66 l c) (kl kc : IntKind) (L C : Int) (n : Nat) (hl : a.eval l = .int kl L) (hc : a.eval c = .int kc C) (hL : L = (n : Int)) (hC : C = (n : Int)) (b2 : n ≤ 1048576)
    (hK : ∀ w', (∀ P E, WvAt w' w.heap.size n (fun _ => nZ) P E) → Ext w w' → w.heap.size < w'.heap.size → wpList Tryz.prog ops Q rest (a.put o.dst (.slice (some ⟨w.heap.size, 0, none⟩) n n)) w') :
    wpList Tryz.prog ops Q (o :: rest) a w := by
  obtain ⟨i0, hi, hz0, hz1, hz2⟩ := info_parts P_info
  refine wpList_make_full w hg l c 66 hop w.heap.size 105 i0 (.pointer none) 1 Tryz.underlying66 hi hz0 hz1 kl kc L C n hl hc hL hC (by rw [hz2]; omega) (by unfold maxLen; omega) (Nat.le_refl _) ?_
  intro w' hown hgrow
  have key : ∃ cs, w'.heap[w.heap.size]? = some (.cells cs 105 (0, 0)) ∧ cs.toList = List.replicate n (.pointer none) := by
    obtain ⟨_, h | ⟨g, cap, cur, hv, _, hh, _, _, hsz, ht⟩⟩ := hown
    · simp at h
    · simp only [Value.slice.injEq, Option.some.injEq, Addr.mk.injEq, and_true, true_and] at hv
      obtain ⟨hg, rfl⟩ := hv
      subst hg
      refine ⟨cur, hh, ?_⟩
      have e1 : cur.toList.take (n * 1) = cur.toList := List.take_of_length_le (by rw [Array.length_toList, hsz]; exact Nat.le_refl _)
      rw [e1] at ht
      rw [ht]
      simp [Value.cells, toList_madeCells_one]
  obtain ⟨cs, h1, hcs⟩ := key
  have hsz : cs.size = n := by rw [← Array.length_toList, hcs]; simp
  refine hK w' (fun P E => ⟨cs, h1, hsz, fun x hx => ⟨none, ?_, PtA.zero _ _ _⟩⟩) ((Below.refl _ _).grown hgrow (Nat.le_refl _) (fun k h => by cases h)) (Array.getElem?_eq_some_iff.1 h1).1
  rw [← Array.getElem?_toList, hcs, List.getElem?_replicate, if_pos hx]
end Go.Proofs.YtfjnlopbmkimiaaGreatDoor
namespace Go.Proofs.YtfjnlopbmkimiaaGreatDoor
open Go.RowKit Go.Shelf
attribute [local go_sem] Oper.semAt_some

theorem PtA.amp {w : World} {p : Option Addr} {x : Nm} {P E N : Nat} (h : PtA w p x P E) (hx : Amp N x) : PtA w p x (2 * N + 1) N := by
  rcases h with h | ⟨g, c, h1, h2, h3, h4⟩
  · exact Or.inl h
  · exact Or.inr ⟨g, c, h1, h2, ⟨h3.anti, h3.low, hx.bd.abs, hx.bd.1, h3.val⟩, h4⟩
/-- A wave whose amplitudes are those behind N operations. -/
structure WvA (w : World) (b n : Nat) (s : Nat → Nm) (N : Nat) : Prop where
  at' : WvAt w b n s (2 * N + 1) N
  amp : ∀ x, Amp N (s x)
theorem WvAt.amp {w : World} {b n : Nat} {s : Nat → Nm} {P E N : Nat} (h : WvAt w b n s P E) (hx : ∀ x, Amp N (s x)) : WvA w b n s N := by
  obtain ⟨cs, h1, h2, h3⟩ := h.row
  refine ⟨⟨cs, h1, h2, fun x hxn => ?_⟩, hx⟩
  obtain ⟨p, g1, g2⟩ := h3 x hxn
  exact ⟨p, g1, g2.amp (hx x)⟩
theorem WvAt.congr {w : World} {b n : Nat} {s s' : Nat → Nm} {P E : Nat} (h : WvAt w b n s P E) (hs : ∀ x, x < n → s x = s' x) : WvAt w b n s' P E := by
  obtain ⟨cs, h1, h2, h3⟩ := h.row
  refine ⟨cs, h1, h2, fun x hxn => ?_⟩
  rw [← hs x hxn]
  exact h3 x hxn
theorem WvA.le {w : World} {b n : Nat} {s : Nat → Nm} {N M : Nat} (h : WvA w b n s N) (hm : N ≤ M) : WvA w b n s M := h.at'.amp (fun x => (h.amp x).le hm)
theorem WvA.ext {w w' : World} {b n : Nat} {s : Nat → Nm} {N : Nat} (h : WvA w b n s N) (k : Ext w w') : WvA w' b n s N := ⟨h.at'.ext k, h.amp⟩
theorem WvA.is {w : World} {b n : Nat} {s s' : Nat → Nm} {N M : Nat} (h : WvA w b n s N) (hs : ∀ x, x < n → s x = s' x) (ha : ∀ x, Amp M (s' x)) : WvA w b n s' M := (h.at'.congr hs).amp ha
/-- A block that holds no cells may turn. -/
theorem WvAt.kept {W W' : World} {row : Option Nat} {b n : Nat} {s : Nat → Nm} {P E : Nat} (h : WvAt W b n s P E) (hg : W.grownBy W' row) (hr : ∀ r, row = some r → ∃ o : Obj, W.heap[r]? = some o ∧ o.isCells = false) : WvAt W' b n s P E := by
  obtain ⟨cs, h1, h2, h3⟩ := h.row
  have hk : Keep64 W W' := ⟨hg.size, fun g o x hx => cell_kept hx hg hr⟩
  refine ⟨cs, (grownBy_keeps_cells hg hr h1 rfl).trans h1, h2, fun x hx => ?_⟩
  obtain ⟨p, g1, g2⟩ := h3 x hx
  refine ⟨p, g1, ?_⟩
  rcases g2 with g2 | ⟨g, c, e1, e2, e3, e4⟩
  · exact Or.inl g2
  · exact Or.inr ⟨g, c, e1, (grownBy_keeps_cells hg hr e2 rfl).trans e2, e3.keep64 hk, e4⟩
theorem Chg.kept {U W W' : World} {row : Option Nat} {b : Nat} (h : Chg b U W) (hg : W.grownBy W' row) (hr : ∀ r, row = some r → U.heap.size ≤ r ∧ ∃ o : Obj, W.heap[r]? = some o ∧ o.isCells = false) : Chg b U W' :=
  have hB : Below U.heap.size W W' := (Below.refl _ W).grown hg h.size (fun k e => (hr k e).1)
  ⟨hB.os.trans h.os, hB.tape.trans h.tape, hB.output.trans h.output, Nat.le_trans h.size hB.size, fun k hk hl => (hB.block k hl).trans (h.block k hk hl),
    h.keep.trans ⟨hg.size, fun _ _ _ hx => cell_kept hx hg (fun r e => (hr r e).2)⟩⟩
theorem Chg.refl (b : Nat) (w : World) : Chg b w w := Chg.of_ext (Ext.refl w)
theorem Chg.cell {b : Nat} {w w' : World} (h : Chg b w w') {g o : Nat} {v : Value} (hne : g ≠ b) (hc : w.cell? ⟨g, o, none⟩ = some v) : w'.cell? ⟨g, o, none⟩ = some v :=
  (World.cell?_of_block (a := ⟨g, o, none⟩) (h.block g hne (World.block_lt_of_cell? w ⟨g, o, none⟩ hc))).trans hc
theorem Chg.kp {b n0 : Nat} {w w' : World} (h : Chg b w w') (hn : n0 ≤ w.heap.size) : KpB b n0 w w' := fun k h1 h2 => h.block k h1 (Nat.lt_of_lt_of_le h2 hn)
theorem Chg.others {b n : Nat} {s : Nat → Nm} {P E : Nat} {w w' : World} (h : Chg b w w') (hw : WvAt w b n s P E) : KeepsOthers w w' := by
  obtain ⟨cs, h1, _, _⟩ := hw.row
  refine ⟨h.size, fun k o hk ho => ?_⟩
  have hne : k ≠ b := by
    rintro rfl
    rw [h1] at hk
    cases hk
    cases ho
  exact (h.block k hne (Array.getElem?_eq_some_iff.1 hk).1).trans hk
/-- One of them is written. -/
theorem WvA.put {w : World} {b n : Nat} {s : Nat → Nm} {N : Nat} (h : WvA w b n s N) {x : Nat} (hx : x < n) {p : Option Addr} {z : Nm} {P E M : Nat} (hz : PtA w p z P E) (ha : Amp M z) (hM : N ≤ M) :
    WvA (w.setCell ⟨b, x, none⟩ (.pointer p)) b n (up1 s x z) M ∧ Chg b w (w.setCell ⟨b, x, none⟩ (.pointer p)) := by
  obtain ⟨h1, h2⟩ := (h.le hM).at'.set hx (hz.amp ha)
  refine ⟨⟨h1, up1_amp (h.le hM).amp ha⟩, Chg.of_only ((Only.refl b w).setCell x _) h2⟩

theorem Bru.far {b n : Nat} {s : Nat → Nm} {P E : Nat} {w w' : World} (hB : Bru w) (h : Chg b w w') (hw : WvAt w b n s P E) : Bru w' := fun j hj => by
  have h0 := hB j hj
  refine h.cell (fun e => ?_) h0
  obtain ⟨cs, h1, h2, h3⟩ := hw.row
  rw [e, cell_of_row w b j cs _ (0, 0) h1] at h0
  have hjn : j < n := by rw [← h2]; exact (Array.getElem?_eq_some_iff.1 h0).1
  obtain ⟨p, g1, _⟩ := h3 j hjn
  rw [g1] at h0
  cases h0

/-- How a round's body is left: what its state has become. -/
def rndQ (b n : Nat) (s : Nat → Nm) (N : Nat) (W : World) : Exit → Act → World → Prop
  | .normal, _, W' => WvA W' b n s N ∧ Chg b W W'
  | _, _, _ => False
/-- A loop over basis states. -/
theorem range_states {g : Operand} {ps : Array Tmp} {assign body : Code} {Q : Exit → Act → World → Prop} {a : Act} {U : World} {m : Nat} {o f n b Bo Bw Bf : Nat} {ao : Option Addr} {cp N0 : Nat} {s : Nat → Nm}
    (stp : (Nat → Nm) → Nat → (Nat → Nm))
    (hg : a.eval g = .func (.func 160) #[] #[.pointer (some ⟨Bo, 0, none⟩), .pointer (some ⟨Bw, 0, none⟩), .pointer (some ⟨Bf, 0, none⟩)]) (h1 : 1 ≤ m)
    (ho : o &&& f = o) (hn : n ≤ 4096) (hf : f < 4096) (b1 : Bo ≠ b ∧ Bo < U.heap.size) (b2 : Bw ≠ b ∧ Bw < U.heap.size) (b3 : Bf ≠ b ∧ Bf < U.heap.size)
    (c1 : U.cell? ⟨Bo, 0, none⟩ = some (.int .i64 (o : Int))) (c2 : U.cell? ⟨Bw, 0, none⟩ = some (.slice ao n cp)) (c3 : U.cell? ⟨Bf, 0, none⟩ = some (.int .i64 (f : Int)))
    (hw : WvA U b n s N0) (hps : ps.size = 1) (a₁ : Nat → Act)
    (hassign : ∀ (l : Nat) (x : St o f n) (W : World) (K : Act → World → Prop), K (a₁ x.1) W → assign.wpIn (Rnd l) (m - 1 - 1) Tryz.prog (Exit.then K (fun _ _ _ => False)) { tmps := (ps.zip #[Value.int .i64 (x.1 : Int)]).foldl (fun t (p, v) => t.setIfInBounds p v) a.tmps, defers := [] } W)
    (hbody : ∀ (l x : Nat) (s' : Nat → Nm) (N : Nat) (W : World), x < n → x &&& f = o → WvA W b n s' N → Chg b U W → N < N0 + 4096 → body.wpIn (Rnd l) (m - 1 - 1) Tryz.prog (rndQ b n (stp s' x) (N + 1) W) (a₁ x) W)
    (hdone : ∀ (D : Nat) (W : World), U.heap.size ≤ D → WvA W b n ((stL o f n).foldl stp s) (N0 + 4096) → Chg b U W → W.heap[D]? = some (.deferred (some [])) → Q .normal { a with defers := { target := .collected D, args := #[] } :: a.defers } W) :
    (Code.rangeFunc g ps assign body).wpIn Fence.wide m Tryz.prog Q a U := by
  refine wpIn_rangeFunc_ownF (F := Fence.wide) rfl h1 hg trivial (enters_of Tryz.func160 (by kernel_rfl) rfl)
    (states_stops (m - 1) o f n b U.heap.size Bo Bw Bf ao cp U ho hn hf b1 b2 b3 (Nat.le_refl _) c1 c2 c3) (fun h k => KpB.trans h k)
    (fun W l o o' hl h _ _ => fun k _ hk2 => ?_) (Below.refl _ _) (fun _ => by rw [hps]; rfl)
    (fun pre W => WvA W b n ((pre.map (·.1)).foldl stp s) (N0 + pre.length) ∧ Chg b U W) (fun _ _ _ => False)
    (fun pre W W' row hs hg hr => ⟨(hs.1.at'.kept hg (fun r e => (hr r e).2)).amp hs.1.amp, hs.2.kept hg hr⟩) (fun _ _ _ _ _ hs _ _ => hs) ⟨hw, Chg.refl b U⟩ (fun x => a₁ x.1) hassign ?_ ?_ ?_
  · exact World.putObj_heap_other (by omega)
  · intro l pre x W hI hlen
    refine wpIn_mono (hbody l x.1 _ _ W x.2.1 x.2.2 hI.1 hI.2 (by omega)) ?_
    intro e a' W' hq
    cases e with
    | normal =>
      obtain ⟨q1, q2⟩ := hq
      refine ⟨q2.others hI.1.at', q2.kp hI.2.size, ?_, hI.2.trans q2⟩
      rw [List.map_append, List.foldl_append]
      have : N0 + (pre ++ [x]).length = N0 + pre.length + 1 := by simp; omega
      rw [this]
      exact q1
    | _ => exact hq.elim
  · intro D xs W hD hS hI hK
    refine hdone D W hD ?_ hI.2 hK
    rw [← hS]
    refine hI.1.le ?_
    have : xs.length = (xs.map (·.1)).length := (List.length_map _).symm
    rw [hS] at this
    have := stL_len o f n
    omega
  · intro D c pre W _ _ h _
    exact h.elim
end Go.Proofs.YtfjnlopbmkimiaaGreatDoor
namespace Go.Proofs.YtfjnlopbmkimiaaGreatDoor
open Go.RowKit Go.Shelf
attribute [local go_sem] Oper.semAt_some

theorem fin_wave {U W : World} {b n D : Nat} {s : Nat → Nm} {N : Nat} (hW : WvA W b n s N) (hC : Chg b U W) (hD : U.heap.size ≤ D) (hK : W.heap[D]? = some (.deferred (some []))) : WvA (W.putObj D (.deferred none)) b n s N ∧ Chg b U (W.putObj D (.deferred none)) :=
  ⟨(hW.at'.kept (grownBy_putObj' W D _) (fun r e => by cases e; exact ⟨_, hK, rfl⟩)).amp hW.amp, hC.kept (grownBy_putObj' W D _) (fun r e => by cases e; exact ⟨hD, _, hK, rfl⟩)⟩
theorem rnd_shut {b n i : Nat} {s : Nat → Nm} {N : Nat} {W : World} : ¬ LetsOut (Exit.inBlock i (rndQ b n s N W)) := fun ⟨_, _, h⟩ => h
theorem stepK_storeP {ops : Array Oper} {o : Oper} {a : Act} {K : Act → World → Prop} {Q : Exit → Act → World → Prop} {E : Prop} {w : World} (hgd : o.guard = none) (hd : o.dst = none) (p x : Operand)
    (ho : o.op = .store 105 p x) (b off : Nat) (q : Option Addr) (u : Value) (hp : a.eval p = .pointer (some ⟨b, off, none⟩)) (hx : a.eval x = .pointer q)
    (hcell : w.cell? ⟨b, off, none⟩ = some u) (hfz : w.frozen? ⟨b, off, none⟩ = false) (h : K a (w.setCell ⟨b, off, none⟩ (.pointer q))) :
    if Region.wanted o (yielded ops a.tmps) = true then Oper.wp Tryz.prog o a w K Q else E := by
  have hw : Region.wanted o (yielded ops a.tmps) = true := by simp [Region.wanted, hgd]
  rw [if_pos hw]
  obtain ⟨od, oo, ot, opp, oa, og⟩ := o
  simp only at ho hd
  subst ho hd
  have HH := Lib.hid h
  clear h
  unfold Oper.wp execOp
  simp only [hp, hx]
  go_simp
  exact HH.out

set_option maxRecDepth 100000 in
set_option maxHeartbeats 2000000 in
theorem turn_any (b n cp ones : Nat) (k : Int) (s : Nat → Nm) (N : Nat) (w : World) (h : WvA w b n s N) (hn : n ≤ 4096) (hm : ones < 4096) (hN : N ≤ 100000) :
    Calls Tryz.prog 118 #[.slice (some ⟨b, 0, none⟩) n cp, .int .i64 (ones : Int), .int .i64 k] w fun e w' => (∃ v, e = .returned v) ∧ WvA w' b n (tuS ones k n s) (N + 4096) ∧ Chg b w w' := by
  obtain ⟨H, hH⟩ : ∃ H, w.heap.size = H := ⟨_, rfl⟩
  have hbH : b < H := by rw [← hH]; exact h.at'.lt
  obtain ⟨W1, hW1⟩ : ∃ W1, ((w.alloc (.cells #[.slice (some ⟨b, 0, none⟩) n cp] 66)).alloc (.cells #[.int .i64 k] 3)) = W1 := ⟨_, rfl⟩
  have E1 : Ext w W1 := by rw [← hW1]; exact (ext_alloc _ _).trans (ext_alloc _ _)
  have z1 : W1.cell? ⟨H, 0, none⟩ = some (.slice (some ⟨b, 0, none⟩) n cp) := by rw [← hW1, ← hH]; exact old1 (new1 _ _ _) _
  have z2 : W1.cell? ⟨H + 1, 0, none⟩ = some (.int .i64 k) := by
    have := new1 (w.alloc (.cells #[.slice (some ⟨b, 0, none⟩) n cp] 66)) (.int .i64 k) 3
    rw [World.size_alloc] at this
    rw [← hW1, ← hH]; exact this
  have sz1 : H + 1 < W1.heap.size := by rw [← hW1, ← hH]; simp
  have HW1 := Lib.hid hW1; have HH := Lib.hid hH
  clear hW1 hH
  refine (callsIn_wide (n := 3)).1 ?_
  refine callsIn_of_wp_marks Tryz.func118 rfl trivial ?_ rfl
  simp only [Tryz.ntmps118, List.size_toArray, List.length_cons, List.length_nil, Nat.reduceAdd, Nat.reduceSub, Array.replicate_succ, Array.replicate_zero, List.push_toArray, List.append_toArray, List.nil_append, List.cons_append]
  refine wpIn_wide.2 ?_
  go_upto_region 1 with fail
  rw [HW1.out, HH.out]
  go_wp2_with fail
  refine (states_any (some ⟨b, 0, none⟩) n cp ones 0 W1 hm (by decide)).mono ?_
  rintro e U ⟨Bo, Bw, Bf, rfl, EU, c1, c2, c3, g1, g2, g3⟩
  rw [Nat.or_zero] at c3
  have hU : WvA U b n s N := (h.ext E1).ext EU
  have y1 := (EU.cell (p := ⟨H, 0, none⟩) (show H < W1.heap.size by omega)).trans z1
  have y2 := (EU.cell (p := ⟨H + 1, 0, none⟩) (show H + 1 < W1.heap.size by omega)).trans z2
  go_wp2_with fail
  refine wpIn_wide.1 (range_states (m := 3) (fun s x => up1 s x (nTr k (s x))) rfl (by decide) (Nat.and_self ones) hn hm ⟨by omega, g1.2⟩ ⟨by omega, g2.2⟩ ⟨by omega, g3.2⟩ c1 c2 c3 hU rfl
    (fun x => { tmps := #[.slice (some ⟨b, 0, none⟩) n cp, .int .i64 (ones : Int), .int .i64 k, .pointer (some ⟨H, 0, none⟩), undef, .pointer (some ⟨H + 1, 0, none⟩), .int .i64 (x : Int), .slice (some ⟨b, 0, none⟩) n cp, .int .i64 (ones : Int),
      .func (.func 160) #[] #[.pointer (some ⟨Bo, 0, none⟩), .pointer (some ⟨Bw, 0, none⟩), .pointer (some ⟨Bf, 0, none⟩)], .int .i64 (x : Int), undef, undef, undef, undef, undef, undef, undef, undef, undef, undef, undef, undef, undef, undef, undef, undef, undef], defers := [] }) ?assign ?body ?done)
  case assign =>
    intro l x W K hK
    gi_wp2
    exact hK
  case done =>
    intro D W hD hW hC hK
    go_wp2_with fail
    refine ⟨by simp, .inl ⟨_, _, rfl, run_takeDeferred hK, ?_⟩⟩
    obtain ⟨h1, h2⟩ := fin_wave hW hC hD hK
    exact ⟨_, results_none rfl _ _ _, ⟨_, rfl⟩, h1, (Chg.of_ext (E1.trans EU)).trans h2⟩
  case body =>
    intro l x s' N' W hx hxf hW hC hN'
    have hN4 : N' ≤ 104096 := by omega
    have x1 := hC.cell (show H ≠ b by omega) y1
    have x2 := hC.cell (show H + 1 ≠ b by omega) y2
    obtain ⟨p, y0, fz, hp⟩ := hW.at'.get hx
    have q0 : (0 : Int) ≤ (x : Int) := by omega
    have q1 : (x : Int) < (n : Int) := by omega
    have HW := Lib.hid hW; have Hx := Lib.hid hx; have HN := Lib.hid hN4
    clear hW hx hxf hC hN' hN4 y1 y2 c1 c2 c3 g1 g2 g3 hU EU z1 z2 E1 h hn hm hN hbH sz1 HW1 HH
    refine wpIn_block (wpIn_seq (region_round (by rfl) (then_shut rnd_shut) ?_))
    rcases hp with ⟨rfl, hz⟩ | ⟨g, c, rfl, hr, hNm, hz⟩
    · go_wp2_with fail
      refine wpIn_cond_false rfl (wpIn_skip ?_)
      refine ⟨?_, Chg.refl _ _⟩
      have : up1 s' x (nTr k (s' x)) = s' := by
        funext y
        unfold up1
        by_cases e : y = x
        · rw [if_pos e, e, hz, tr_z]
        · rw [if_neg e]
      rw [this]
      exact HW.out.le (Nat.le_succ _)
    · go_wp2_with fail
      refine wpIn_cond_true rfl ?_
      have hinf := hNm.info
      have HNm := Lib.hid hNm
      clear hNm hz
      have hd0 : Ext W W.drew := Below.drew (Ext.refl _)
      have lH := World.block_lt_of_cell? W ⟨H, 0, none⟩ x1
      have lK := World.block_lt_of_cell? W ⟨H + 1, 0, none⟩ x2
      have lb := World.block_lt_of_cell? W ⟨b, x, none⟩ y0
      have lg := (Array.getElem?_eq_some_iff.1 hr).1
      refine region_round_any (by kernel_rfl) (by rfl) rnd_shut (anyK_plain (k := 12) (S := fun w' => (w'.cell? ⟨H, 0, none⟩ = some (.slice (some ⟨b, 0, none⟩) n cp) ∧ w'.cell? ⟨H + 1, 0, none⟩ = some (.int .i64 k) ∧ w'.cell? ⟨b, x, none⟩ = some (.pointer (some ⟨g, 0, none⟩))) ∧ w'.heap[g]? = some (.cells c 78 (0, 0))) _ _ _ _ ?_)
      show anyK _ _ _ _ _ _ 13 #[false, false, false, false, false, false, false, false, false, false, false, false, false] _ _
      have hHeld : (W.drew.cell? ⟨H, 0, none⟩ = some (.slice (some ⟨b, 0, none⟩) n cp) ∧ W.drew.cell? ⟨H + 1, 0, none⟩ = some (.int .i64 k) ∧ W.drew.cell? ⟨b, x, none⟩ = some (.pointer (some ⟨g, 0, none⟩))) ∧ W.drew.heap[g]? = some (.cells c 78 (0, 0)) := ⟨⟨cellKeep hd0 lH x1, cellKeep hd0 lK x2, cellKeep hd0 lb y0⟩, (hd0.block g lg).trans hr⟩
      refine anyK_take (i := 0) (v := ?_) rfl (by kernel_rfl) (by kernel_rfl) (by kernel_rfl) (N := 13) (by kernel_rfl) (by kernel_rfl) (by kernel_rfl) (fun _ _ _ h => h) (Or.inl ⟨by rfl, ?_⟩) hHeld ?_
      rotate_left 1
      · intro w hSw
        go_simp
        try with_reducible rfl
      show anyK _ _ _ _ _ _ _ _ (Act.put _ (some 16) _) _
      simp only [Act.put, List.setIfInBounds_toArray, List.set_cons_zero, List.set_cons_succ]
      refine anyK_take (i := 1) (v := ?_) rfl (by kernel_rfl) (by kernel_rfl) (by kernel_rfl) (N := 13) (by kernel_rfl) (by kernel_rfl) (by kernel_rfl) (fun _ _ _ h => h) (Or.inl ⟨by rfl, ?_⟩) hHeld ?_
      rotate_left 1
      · intro w hSw
        go_simp
        try with_reducible rfl
      show anyK _ _ _ _ _ _ _ _ (Act.put _ (some 17) _) _
      simp only [Act.put, List.setIfInBounds_toArray, List.set_cons_zero, List.set_cons_succ]
      refine anyK_take (i := 2) (v := ?_) rfl (by kernel_rfl) (by kernel_rfl) (by kernel_rfl) (N := 13) (by kernel_rfl) (by kernel_rfl) (by kernel_rfl) (fun _ _ _ h => h) (Or.inl ⟨by rfl, ?_⟩) hHeld ?_
      rotate_left 1
      · intro w hSw
        go_simp
        try with_reducible rfl
      show anyK _ _ _ _ _ _ _ _ (Act.put _ (some 18) _) _
      simp only [Act.put, List.setIfInBounds_toArray, List.set_cons_zero, List.set_cons_succ]
      refine anyK_take (i := 3) (v := ?_) rfl (by kernel_rfl) (by kernel_rfl) (by kernel_rfl) (N := 13) (by kernel_rfl) (by kernel_rfl) (by kernel_rfl) (fun _ _ _ h => h) (Or.inl ⟨by rfl, ?_⟩) hHeld ?_
      rotate_left 1
      · intro w hSw
        go_simp
        try with_reducible rfl
      show anyK _ _ _ _ _ _ _ _ (Act.put _ (some 19) _) _
      simp only [Act.put, List.setIfInBounds_toArray, List.set_cons_zero, List.set_cons_succ]
      refine anyK_take (i := 4) (v := ?_) rfl (by kernel_rfl) (by kernel_rfl) (by kernel_rfl) (N := 13) (by kernel_rfl) (by kernel_rfl) (by kernel_rfl) (fun _ _ _ h => h) (Or.inl ⟨by rfl, ?_⟩) hHeld ?_
      rotate_left 1
      · intro w hSw
        go_simp
        try with_reducible rfl
      show anyK _ _ _ _ _ _ _ _ (Act.put _ (some 20) _) _
      simp only [Act.put, List.setIfInBounds_toArray, List.set_cons_zero, List.set_cons_succ]
      refine anyK_take (i := 5) (v := ?_) rfl (by kernel_rfl) (by kernel_rfl) (by kernel_rfl) (N := 13) (by kernel_rfl) (by kernel_rfl) (by kernel_rfl) (fun _ _ _ h => h) (Or.inl ⟨by rfl, ?_⟩) hHeld ?_
      rotate_left 1
      · intro w hSw
        go_simp
        try with_reducible rfl
      show anyK _ _ _ _ _ _ _ _ (Act.put _ (some 21) _) _
      simp only [Act.put, List.setIfInBounds_toArray, List.set_cons_zero, List.set_cons_succ]
      refine anyK_take (i := 6) (v := ?_) rfl (by kernel_rfl) (by kernel_rfl) (by kernel_rfl) (N := 13) (by kernel_rfl) (by kernel_rfl) (by kernel_rfl) (fun _ _ _ h => h) (Or.inl ⟨by rfl, ?_⟩) hHeld ?_
      rotate_left 1
      · intro w hSw
        go_simp
        try with_reducible rfl
      show anyK _ _ _ _ _ _ _ _ (Act.put _ (some 22) _) _
      simp only [Act.put, List.setIfInBounds_toArray, List.set_cons_zero, List.set_cons_succ]
      refine anyK_take (i := 7) (v := .agg c) rfl (by kernel_rfl) (by kernel_rfl) (by kernel_rfl) (N := 13) (by kernel_rfl) (by kernel_rfl) (by kernel_rfl) (fun _ _ _ h => h) (Or.inl ⟨by rfl, fun _ h => exec_load_row 78 _ rfl g rfl 78 _ (0, 0) _ h.2 Tryz.underlying78 rfl hinf⟩) hHeld ?_
      show anyK _ _ _ _ _ _ _ _ (Act.put _ (some 23) _) _
      simp only [Act.put, List.setIfInBounds_toArray, List.set_cons_zero, List.set_cons_succ]
      refine anyK_take (i := 8) (v := ?_) rfl (by kernel_rfl) (by kernel_rfl) (by kernel_rfl) (N := 13) (by kernel_rfl) (by kernel_rfl) (by kernel_rfl) (fun _ _ _ h => h) (Or.inl ⟨by rfl, ?_⟩) hHeld ?_
      rotate_left 1
      · intro w hSw
        go_simp
        try with_reducible rfl
      show anyK _ _ _ _ _ _ _ _ (Act.put _ (some 24) _) _
      simp only [Act.put, List.setIfInBounds_toArray, List.set_cons_zero, List.set_cons_succ]
      clear hHeld
      refine anyK_one (i := 9) (by kernel_rfl) rfl (fun Kk hKk => ?_)
      go_simp
      (go_at_call 140; refine (Turn_nm c _ _ _ k W.drew (HNm.out.ext hd0) 10000 (by decide) (by have := HN.out; omega)).mono ?_; rintro e w2 ⟨cr, rfl, hcr, hx2⟩)
      have he2 := hd0.trans hx2
      go_wp2_with fail
      refine hKk.out _ _ (fun _ => ⟨⟨cellKeep he2 lH x1, cellKeep he2 lK x2, cellKeep he2 lb y0⟩, (he2.block g lg).trans hr⟩) ?_
      clear hKk Kk
      simp only [List.setIfInBounds_toArray, List.set_cons_zero, List.set_cons_succ]
      skip
      refine anyK_one (i := 10) (by kernel_rfl) rfl (fun Kk hKk => ?_)
      go_simp
      (go_at_call 115; refine (kept_any cr _ _ _ w2 hcr).mono ?_; rintro e w3 ⟨p3, rfl, hp3, hx3⟩)
      have he3 := he2.trans hx3
      go_wp2_with fail
      refine hKk.out _ _ (fun _ => ⟨⟨cellKeep he3 lH x1, cellKeep he3 lK x2, cellKeep he3 lb y0⟩, (he3.block g lg).trans hr⟩) ?_
      clear hKk Kk
      simp only [List.setIfInBounds_toArray, List.set_cons_zero, List.set_cons_succ]
      have hHeld : (w3.cell? ⟨H, 0, none⟩ = some (.slice (some ⟨b, 0, none⟩) n cp) ∧ w3.cell? ⟨H + 1, 0, none⟩ = some (.int .i64 k) ∧ w3.cell? ⟨b, x, none⟩ = some (.pointer (some ⟨g, 0, none⟩))) ∧ w3.heap[g]? = some (.cells c 78 (0, 0)) := ⟨⟨cellKeep he3 lH x1, cellKeep he3 lK x2, cellKeep he3 lb y0⟩, (he3.block g lg).trans hr⟩
      refine anyK_take (i := 11) (v := ?_) rfl (by kernel_rfl) (by kernel_rfl) (by kernel_rfl) (N := 13) (by kernel_rfl) (by kernel_rfl) (by kernel_rfl) (fun _ _ _ h => h) (Or.inl ⟨by rfl, ?_⟩) hHeld ?_
      rotate_left 1
      · intro w hSw
        go_simp
        try with_reducible rfl
      show anyK _ _ _ _ _ _ _ _ (Act.put _ (some 27) _) _
      simp only [Act.put, List.setIfInBounds_toArray, List.set_cons_zero, List.set_cons_succ]
      clear hHeld
      obtain ⟨hA, hB⟩ := (HW.out.ext he3).put Hx.out hp3 ((HW.out.amp x).tr k) (Nat.le_refl _)
      have y3 := cellKeep he3 lb y0
      have f3 : w3.frozen? ⟨b, x, none⟩ = false := by obtain ⟨_, _, hf, _⟩ := (HW.out.ext he3).at'.get Hx.out; exact hf
      have Hend := Lib.hid (show WvA (w3.setCell ⟨b, x, none⟩ (.pointer p3)) b n (up1 s' x (nTr k (s' x))) (N' + 1) ∧ Chg b W (w3.setCell ⟨b, x, none⟩ (.pointer p3)) from ⟨hA.le (Nat.le_succ _), (Chg.of_ext he3).trans hB⟩)
      clear hA hB hcr hx2 hp3 hx3 he2
      refine anyK_one (i := 12) (by kernel_rfl) rfl (fun Kk hKk => ?_)
      refine stepK_storeP rfl rfl _ _ rfl b x p3 _ rfl rfl y3 f3 ?_
      refine hKk.out _ _ (fun h => Bool.noConfusion (show true = false from h)) ?_
      clear hKk Kk
      simp only [List.setIfInBounds_toArray, List.set_cons_zero, List.set_cons_succ]
      refine anyK_done (by kernel_rfl) ?_ _
      exact Hend.out
end Go.Proofs.YtfjnlopbmkimiaaGreatDoor
namespace Go.Proofs.YtfjnlopbmkimiaaGreatDoor

section
variable {P : Program} {ops : Array Oper} {Q : Exit → Act → World → Prop} {md : Region.Mode} {S T : World → Prop} {k : Nat}

def anyT (P : Program) (md : Region.Mode) (ops : Array Oper) (Q : Exit → Act → World → Prop) (k : Nat) (S T : World → Prop) : Nat → Array Bool → Act → World → Prop
  | 0, l, a, w => Region.ready md ops l = [] ∧ Q .normal a w
  | n + 1, l, a, w => (Region.ready md ops l = [] → Q .normal a w) ∧
      ∀ i, i ∈ Region.ready md ops l → wpOp P ops Q i (fun a' w' => T w' ∧ ((l.setIfInBounds i true).getD k true = false → S w') ∧ anyT P md ops Q k S T n (l.setIfInBounds i true) a' w') a w

theorem anyT_plain (n : Nat) : ∀ (l : Array Bool) (a : Act) (w : World), anyT P md ops Q k S T n l a w → wpAny P md ops Q n l a w := by
  induction n with
  | zero => exact fun _ _ _ h => h
  | succ n ih => exact fun l a w h => ⟨h.1, fun i hi => wpOp_mono (fun a' w' h' => ih _ a' w' h'.2.2) (h.2 i hi)⟩

theorem anyT_first {i : Nat} {o : Oper} {v : Value} (hi : ops[i]? = some o) (hsel : ∀ (j : Nat) (o : Oper) cs b, ops[j]? = some o → o.op ≠ .select cs b)
    (hQ : ∀ c a w, Q (.panic c) (a.put o.dst v) w → Q (.panic c) a w) {N : Nat} (hw : waits md ops N k i = true) (n : Nat) :
    ∀ (l : Array Bool) (a : Act) (w : World), closedL md ops l →
      (∀ j oj, ops[j]? = some oj → j ≠ i → l.getD j true = false → (∀ e ∈ oj.after, Region.binds md e = true → e.on ≠ i) → o.apart ops oj = true) →
      i ∈ Region.ready md ops l → YieldsIf P ops S o v a → S w → T w → l.getD k true = false →
      anyT P md ops Q k S T n (l.setIfInBounds i true) (a.put o.dst v) w → anyT P md ops Q k S T (n + 1) l a w := by
  induction n with
  | zero =>
    intro l a w _ _ hr hy hS hT _ H
    refine ⟨fun h => (by rw [h] at hr; cases hr), fun j hj => ?_⟩
    by_cases hji : j = i
    · subst hji
      exact hy.wpOp hi hS ⟨hT, fun _ => hS, H⟩
    · have h := ready_mono hj hji
      rw [H.1] at h
      cases h
  | succ n ih =>
    intro l a w hc hfree hr hy hS hT hk H
    refine ⟨fun h => (by rw [h] at hr; cases hr), fun j hj => ?_⟩
    by_cases hji : j = i
    · subst hji
      exact hy.wpOp hi hS ⟨hT, fun _ => hS, H⟩
    have hjk : j ≠ k := fun e => waits_unready hc hw hr (e ▸ hj)
    obtain ⟨hjun, oj, hoj, hall⟩ := mem_ready.1 hj
    have hnot : ∀ e ∈ oj.after, Region.binds md e = true → e.on ≠ i := by
      intro e he hb heq
      have h1 := hall e he hb
      have h0 := (mem_ready.1 hr).1
      rw [heq] at h1
      rcases Nat.lt_or_ge i l.size with h' | h'
      · simp [h'] at h0 h1
        rw [h0] at h1
        cases h1
      · simp [Array.getElem?_eq_none h'] at h1
    have h2 := wpOp_putIf hoj (hfree j oj hoj hji hjun hnot) (fun cs b => hsel i o cs b hi) (fun cs b => hsel j oj cs b hoj) hQ hy (H.2 j (ready_mono hj hji))
    have hk1 : (l.setIfInBounds j true).getD k true = false := by rw [Go.getD_set_ne true hjk]; exact hk
    have hik : i ≠ k := fun e => waits_unready hc hw hr (e ▸ hr)
    have hk2 : ((l.setIfInBounds i true).setIfInBounds j true).getD k true = false := by rw [Go.getD_set_ne true hjk, Go.getD_set_ne true hik]; exact hk
    have hfree' : ∀ m om, ops[m]? = some om → m ≠ i → (l.setIfInBounds j true).getD m true = false → (∀ e ∈ om.after, Region.binds md e = true → e.on ≠ i) → o.apart ops om = true := by
      intro m om hm hmi hun hno
      refine hfree m om hm hmi ?_ hno
      by_cases e : j = m
      · subst e; exact hjun
      · rw [Go.getD_set_ne true e] at hun; exact hun
    refine wpOp_mono (fun a' w' h3 => ?_) h2
    obtain ⟨y3, t3, s3, r3⟩ := h3
    refine ⟨t3, fun _ => s3 hk2, ih _ a' w' (closedL_set hc hj) hfree' (ready_mono hr (Ne.symm hji)) y3 (s3 hk2) t3 hk1 ?_⟩
    rw [Array.setIfInBounds_comm _ _ hji]
    exact r3
/-- What is held throughout needs no one to wait. -/
theorem anyT_firstT {i : Nat} {o : Oper} {v : Value} (hi : ops[i]? = some o) (hik : i ≠ k) (hsel : ∀ (j : Nat) (o : Oper) cs b, ops[j]? = some o → o.op ≠ .select cs b)
    (hQ : ∀ c a w, Q (.panic c) (a.put o.dst v) w → Q (.panic c) a w) (n : Nat) :
    ∀ (l : Array Bool) (a : Act) (w : World),
      (∀ j oj, ops[j]? = some oj → j ≠ i → l.getD j true = false → (∀ e ∈ oj.after, Region.binds md e = true → e.on ≠ i) → o.apart ops oj = true) →
      i ∈ Region.ready md ops l → YieldsIf P ops T o v a → T w → (l.getD k true = false → S w) →
      anyT P md ops Q k S T n (l.setIfInBounds i true) (a.put o.dst v) w → anyT P md ops Q k S T (n + 1) l a w := by
  induction n with
  | zero =>
    intro l a w _ hr hy hT hS H
    refine ⟨fun h => (by rw [h] at hr; cases hr), fun j hj => ?_⟩
    by_cases hji : j = i
    · subst hji
      exact hy.wpOp hi hT ⟨hT, fun e => hS (by rw [Go.getD_set_ne true hik] at e; exact e), H⟩
    · have h := ready_mono hj hji
      rw [H.1] at h
      cases h
  | succ n ih =>
    intro l a w hfree hr hy hT hS H
    refine ⟨fun h => (by rw [h] at hr; cases hr), fun j hj => ?_⟩
    by_cases hji : j = i
    · subst hji
      exact hy.wpOp hi hT ⟨hT, fun e => hS (by rw [Go.getD_set_ne true hik] at e; exact e), H⟩
    obtain ⟨hjun, oj, hoj, hall⟩ := mem_ready.1 hj
    have hnot : ∀ e ∈ oj.after, Region.binds md e = true → e.on ≠ i := by
      intro e he hb heq
      have h1 := hall e he hb
      have h0 := (mem_ready.1 hr).1
      rw [heq] at h1
      rcases Nat.lt_or_ge i l.size with h' | h'
      · simp [h'] at h0 h1
        rw [h0] at h1
        cases h1
      · simp [Array.getElem?_eq_none h'] at h1
    have h2 := wpOp_putIf hoj (hfree j oj hoj hji hjun hnot) (fun cs b => hsel i o cs b hi) (fun cs b => hsel j oj cs b hoj) hQ hy (H.2 j (ready_mono hj hji))
    have hfree' : ∀ m om, ops[m]? = some om → m ≠ i → (l.setIfInBounds j true).getD m true = false → (∀ e ∈ om.after, Region.binds md e = true → e.on ≠ i) → o.apart ops om = true := by
      intro m om hm hmi hun hno
      refine hfree m om hm hmi ?_ hno
      by_cases e : j = m
      · subst e; exact hjun
      · rw [Go.getD_set_ne true e] at hun; exact hun
    refine wpOp_mono (fun a' w' h3 => ?_) h2
    obtain ⟨y3, t3, s3, r3⟩ := h3
    have hS3 : (l.setIfInBounds j true).getD k true = false → S w' := fun e => s3 (by
      rw [Array.setIfInBounds_comm _ _ (Ne.symm hji), Go.getD_set_ne true hik]
      exact e)
    refine ⟨t3, hS3, ih _ a' w' hfree' (ready_mono hr (Ne.symm hji)) y3 t3 hS3 ?_⟩
    rw [Array.setIfInBounds_comm _ _ hji]
    exact r3
theorem anyT_take {i : Nat} {o : Oper} {v : Value} {n : Nat} {l : Array Bool} {a : Act} {w : World} (hi : ops[i]? = some o)
    (hs : Region.noSelect ops = true) (hf : Region.free md ops l i = true) (hr : (Region.ready md ops l).contains i = true) {N : Nat} (hw : waits md ops N k i = true) (hc : closedB md ops l = true) (hk : l.getD k true = false)
    (hQ : ∀ c a w, Q (.panic c) (a.put o.dst v) w → Q (.panic c) a w) (hy : YieldsIf P ops S o v a) (hS : S w) (hT : T w)
    (h : anyT P md ops Q k S T n (l.setIfInBounds i true) (a.put o.dst v) w) : anyT P md ops Q k S T (n + 1) l a w :=
  anyT_first hi (Region.noSelect_spec hs) hQ hw n l a w (closedB_spec hc) (Region.free_spec hi hf) (by simpa using hr) hy hS hT hk h
theorem anyT_takeT {i : Nat} {o : Oper} {v : Value} {n : Nat} {l : Array Bool} {a : Act} {w : World} (hi : ops[i]? = some o) (hik : i ≠ k)
    (hs : Region.noSelect ops = true) (hf : Region.free md ops l i = true) (hr : (Region.ready md ops l).contains i = true)
    (hQ : ∀ c a w, Q (.panic c) (a.put o.dst v) w → Q (.panic c) a w) (hy : YieldsIf P ops T o v a) (hT : T w) (hS : l.getD k true = false → S w)
    (h : anyT P md ops Q k S T n (l.setIfInBounds i true) (a.put o.dst v) w) : anyT P md ops Q k S T (n + 1) l a w :=
  anyT_firstT hi hik (Region.noSelect_spec hs) hQ n l a w (Region.free_spec hi hf) (by simpa using hr) hy hT hS h
theorem anyT_one {i : Nat} {o : Oper} {n : Nat} {l : Array Bool} {a : Act} {w : World} (hr : Region.ready md ops l = [i]) (ho : ops[i]? = some o)
    (h : ∀ K' : Act → World → Prop, Shut (∀ a w, T w → ((l.setIfInBounds i true).getD k true = false → S w) → anyT P md ops Q k S T n (l.setIfInBounds i true) a w → K' a w) → if Region.wanted o (yielded ops a.tmps) = true then Oper.wp P o a w K' Q else K' (a.put o.dst undef) w) :
    anyT P md ops Q k S T (n + 1) l a w := by
  refine ⟨fun h0 => (by rw [hr] at h0; cases h0), fun j hj => ?_⟩
  rw [hr] at hj
  rcases List.mem_singleton.1 hj with rfl
  exact wpOp_step ho (fun K' hK => h K' (fun a w hT hS hW => hK a w ⟨hT, hS, hW⟩))
theorem anyT_done {l : Array Bool} {a : Act} {w : World} (hr : Region.ready md ops l = []) (h : Q .normal a w) (n : Nat) : anyT P md ops Q k S T n l a w := by
  cases n with
  | zero => exact ⟨hr, h⟩
  | succ n => exact ⟨fun _ => h, fun i hi => by rw [hr] at hi; cases hi⟩
end
end Go.Proofs.YtfjnlopbmkimiaaGreatDoor
