/-
  What memory holds, said of words: a slice that is read (Seg), a block of words that is written (Row), and what a call leaves as it was (Ext, Only). Circuits: what they are, in plain numbers; what is wrong with one. Lists of ints in memory. Lists: what stands in one; conditions; controls. (The program's, and the reference's member.) Operations in memory; controls; the first fault of an operation, as the program finds it. The first fault of an operation, as the program finds it. The first fault of an operation, as the reference finds it. Circuits in memory; the first fault of a circuit, as the program finds it and as the reference does. Copies: of a list, of an operation. A region that draws its order and ends in stores: what it loads is held until the first store comes up.
-/
import Derived.Test.YtlokfalkhgjlbaaDoorRows
import Derived.BigQuiet
import Derived.Deep.CutRange
import Derived.Deep.LoopGhost
import Derived.Deep.RegionHeld3
import Derived.Lib.Hide
import Derived.OwnWalk
import Derived.WalkKit
import Derived.WalkLawsBesides
import Derived.WalkSpells
namespace Go.Proofs.YtlokfalkhgjlbaaDoor
open Go.RowKit

/-- Nothing that was there has turned. -/
abbrev Ext (w w' : World) : Prop := Below w.heap.size w w'

theorem Ext.refl (w : World) : Ext w w := Below.refl _ _
theorem Ext.trans {a b c : World} (h : Ext a b) (k : Ext b c) : Ext a c := Below.trans h (Below.mono k h.size)

/-- Only block b has turned. -/
structure Only (b : Nat) (w w' : World) : Prop where
  os : w'.os = w.os
  tape : w'.tape = w.tape
  output : w'.output = w.output
  size : w'.heap.size = w.heap.size
  block : ∀ k, k ≠ b → w'.heap[k]? = w.heap[k]?

theorem Only.refl (b : Nat) (w : World) : Only b w w := ⟨rfl, rfl, rfl, rfl, fun _ _ => rfl⟩
theorem Only.trans {b : Nat} {a c d : World} (h : Only b a c) (k : Only b c d) : Only b a d :=
  ⟨k.os.trans h.os, k.tape.trans h.tape, k.output.trans h.output, k.size.trans h.size, fun i hi => (k.block i hi).trans (h.block i hi)⟩
theorem Only.drew {b : Nat} {a c : World} (h : Only b a c) : Only b a c.drew := ⟨h.os, h.tape, h.output, h.size, h.block⟩
theorem Only.below {b N : Nat} {a c : World} (h : Only b a c) (hb : N ≤ b) : Below N a c :=
  ⟨h.os, h.tape, h.output, by rw [h.size]; exact Nat.le_refl _, fun k hk => h.block k (by omega)⟩
theorem Only.setCell {b : Nat} {a w : World} (h : Only b a w) (o : Nat) (u : Value) : Only b a (w.setCell ⟨b, o, none⟩ u) :=
  h.trans ⟨rfl, rfl, rfl, by simp [World.setCell], fun k hk => Below.heap_setCell _ _ _ _ hk⟩

end Go.Proofs.YtlokfalkhgjlbaaDoor
namespace Go.Proofs.YtlokfalkhgjlbaaDoor
open Go.RowKit

/-- An operation. -/
structure Gop where
  kind : Int
  k : Int
  ctl : List Int
  q : Int
  bit : Int
  cnd : List Int
/-- A circuit. -/
structure Gci where
  qubits : Int
  bits : Int
  ops : List Gop

def below (n b : Int) : Bool := decide (0 ≤ n) && decide (n < b)
def fitsB (v b : Int) (used : Bool) : Bool := if used then below v b else v == 0
def usesK (k : Int) : Bool := k == 1 || k == 4
def usesQ (k : Int) : Bool := !(k == 1)
def usesC (k : Int) : Bool := k == 2 || k == 3 || k == 4
def usesB (k : Int) : Bool := k == 5

/-- The first fault of controls; 'seen' stand ahead. -/
def ctlCode (q n : Int) : List Int → List Int → Int
  | _, [] => 0
  | seen, c :: r => if below c n = false then 10 else if c = q ∨ c ∈ seen then 12 else ctlCode q n (seen ++ [c]) r
/-- A term names a bit. -/
def termOk (bits t : Int) : Bool := !(t == 0) && decide (-bits ≤ t) && decide (t ≤ bits)
def cndOk (bits : Int) (l : List Int) : Bool := decide (l.length ≤ 24) && l.all (termOk bits)
/-- The first fault of an operation. -/
def opCode (o : Gop) (n bits : Int) : Int :=
  if o.kind < 1 ∨ 6 < o.kind then 8
  else if fitsB o.k 16 (usesK o.kind) = false then 9
  else if fitsB o.q n (usesQ o.kind) = false then 10
  else if 0 < o.ctl.length ∧ usesC o.kind = false then 11
  else if ctlCode o.q n [] o.ctl ≠ 0 then ctlCode o.q n [] o.ctl
  else if fitsB o.bit bits (usesB o.kind) = false then 13
  else if cndOk bits o.cnd = false then 14
  else 0
/-- The first fault of operations, the first of which has number i. -/
def opsCode (n bits : Int) : Nat → List Gop → Int × Int
  | _, [] => (0, 0)
  | i, o :: r => if opCode o n bits ≠ 0 then (opCode o n bits, (i : Int)) else opsCode n bits (i + 1) r
/-- The first fault of a circuit. -/
def chk (c : Gci) : Int × Int :=
  if c.qubits < 1 ∨ 12 < c.qubits then (6, 0)
  else if c.bits < 0 ∨ 12 < c.bits then (7, 0)
  else if 4096 < c.ops.length then (2, 0)
  else opsCode c.qubits c.bits 0 c.ops

theorem ctlCode_step (q n : Int) (l : List Int) (i : Nat) (h : i < l.length) : ctlCode q n (l.take i) (l.drop i) = if below (l.getD i 0) n = false then 10 else if l.getD i 0 = q ∨ l.getD i 0 ∈ l.take i then 12 else ctlCode q n (l.take (i + 1)) (l.drop (i + 1)) := by
  have h1 : l.drop i = l[i] :: l.drop (i + 1) := List.drop_eq_getElem_cons h
  have h2 : l.take (i + 1) = l.take i ++ [l[i]] := by rw [List.take_add_one, List.getElem?_eq_getElem h]; rfl
  have h3 : l.getD i 0 = l[i] := by rw [List.getD_eq_getElem?_getD, List.getElem?_eq_getElem h]; rfl
  rw [h1, ctlCode, ← h2, h3]
theorem ctlCode_end (q n : Int) (l : List Int) (i : Nat) (h : l.length ≤ i) : ctlCode q n (l.take i) (l.drop i) = 0 := by
  rw [List.drop_eq_nil_of_le h]; rfl
theorem all_step (p : Int → Bool) (l : List Int) (i : Nat) (h : i < l.length) : (l.drop i).all p = (p (l.getD i 0) && (l.drop (i + 1)).all p) := by
  have h1 : l.drop i = l[i] :: l.drop (i + 1) := List.drop_eq_getElem_cons h
  have h3 : l.getD i 0 = l[i] := by rw [List.getD_eq_getElem?_getD, List.getElem?_eq_getElem h]; rfl
  rw [h1, List.all_cons, h3]

/-- The ints l lie at ao. -/
def IntsAt (w : World) (ao : Option Addr) (n : Nat) (l : List Int) : Prop :=
  l.length = n ∧ (n = 0 ∨ ∃ b o, ao = some ⟨b, o, none⟩ ∧ b < w.heap.size ∧ ∀ t, t < n → w.cell? ⟨b, o + t, none⟩ = some (.int .i64 (l.getD t 0)))
theorem IntsAt.ext {w w' : World} {ao : Option Addr} {n : Nat} {l : List Int} (h : IntsAt w ao n l) (k : Ext w w') : IntsAt w' ao n l := by
  refine ⟨h.1, ?_⟩
  rcases h.2 with h0 | ⟨b, o, e, hb, hc⟩
  · exact Or.inl h0
  · exact Or.inr ⟨b, o, e, Nat.lt_of_lt_of_le hb k.size, fun t ht => (k.cell (p := ⟨b, o + t, none⟩) hb).trans (hc t ht)⟩
theorem IntsAt.take {w : World} {ao : Option Addr} {n : Nat} {l : List Int} (h : IntsAt w ao n l) (m : Nat) (hm : m ≤ n) : IntsAt w ao m (l.take m) := by
  refine ⟨by rw [List.length_take, h.1]; omega, ?_⟩
  rcases h.2 with h0 | ⟨b, o, e, hb, hc⟩
  · exact Or.inl (by omega)
  · refine Or.inr ⟨b, o, e, hb, fun t ht => ?_⟩
    rw [hc t (by omega), List.getD_eq_getElem?_getD, List.getD_eq_getElem?_getD, List.getElem?_take, if_pos ht]
theorem IntsAt.at {w : World} {ao : Option Addr} {n : Nat} {l : List Int} (h : IntsAt w ao n l) (hn : 0 < n) : ∃ b o, ao = some ⟨b, o, none⟩ ∧ b < w.heap.size ∧ ∀ t, t < n → w.cell? ⟨b, o + t, none⟩ = some (.int .i64 (l.getD t 0)) := by
  rcases h.2 with h0 | h
  · omega
  · exact h

set_option maxHeartbeats 400000 in
theorem isBelow_any (n b : Int) (w : World) : Calls Tryd.prog 81 #[.int .i64 n, .int .i64 b] w fun e w' => e = .returned (.bool (below n b)) ∧ w' = w := by
  by_cases h0 : 0 ≤ n
  · by_cases h1 : n < b
    · have e : below n b = true := by simp [below, h0, h1]
      rw [e]
      go_enter Tryd.func81, Tryd.ntmps81
      go_wp2
      go_ret
      exact ⟨rfl, rfl⟩
    · have e : below n b = false := by simp [below, h1]
      rw [e]
      have h1' : decide (n < b) = false := by simp [h1]
      go_enter Tryd.func81, Tryd.ntmps81
      go_wp2
      go_ret
      exact ⟨rfl, rfl⟩
  · have e : below n b = false := by simp [below, h0]
    rw [e]
    have h0' : decide (0 ≤ n) = false := by simp [h0]
    go_enter Tryd.func81, Tryd.ntmps81
    go_wp2
    go_ret
    exact ⟨rfl, rfl⟩

set_option maxHeartbeats 400000 in
theorem fits_any (v b : Int) (u : Bool) (w : World) : Calls Tryd.prog 70 #[.int .i64 v, .int .i64 b, .bool u] w fun e w' => e = .returned (.bool (fitsB v b u)) ∧ w' = w := by
  cases u
  · go_enter Tryd.func70, Tryd.ntmps70
    go_wp2
    go_ret
    exact ⟨rfl, rfl⟩
  · go_enter Tryd.func70, Tryd.ntmps70
    go_wp2_with fail
    refine (isBelow_any _ _ _).mono ?_
    rintro e w1 ⟨rfl, rfl⟩
    go_wp2_with fail
    go_ret
    exact ⟨rfl, rfl⟩

end Go.Proofs.YtlokfalkhgjlbaaDoor
namespace Go.Proofs.YtlokfalkhgjlbaaDoor
open Go.RowKit

theorem mem_take_iff (l : List Int) (x : Int) (i : Nat) : x ∈ l.take i ↔ ∃ t, t < i ∧ t < l.length ∧ l.getD t 0 = x := by
  constructor
  · intro h
    obtain ⟨t, ht, e⟩ := List.mem_iff_getElem.1 h
    rw [List.length_take] at ht
    refine ⟨t, by omega, by omega, ?_⟩
    rw [List.getD_eq_getElem?_getD, List.getElem?_eq_getElem (by omega)]
    rw [List.getElem_take] at e
    exact e
  · rintro ⟨t, h1, h2, e⟩
    rw [List.getD_eq_getElem?_getD, List.getElem?_eq_getElem h2] at e
    exact List.mem_iff_getElem.2 ⟨t, by rw [List.length_take]; omega, by rw [List.getElem_take]; exact e⟩

set_option maxHeartbeats 1000000 in
theorem Index_any (ao : Option Addr) (n c : Nat) (l : List Int) (x : Int) (w : World) (h : IntsAt w ao n l) (hnc : n ≤ c) (hc : c ≤ 9223372036854775807) :
    Calls Tryd.prog 91 #[.slice ao n c, .int .i64 x] w fun e w' => (∃ k : Int, e = .returned (.int .i64 k) ∧ (0 ≤ k ↔ x ∈ l)) ∧ w' = w := by
  have Hl := Lib.hid h.1
  have hab : n = 0 ∨ ∃ b o, ao = some ⟨b, o, none⟩ ∧ ∀ t, t < n → w.cell? ⟨b, o + t, none⟩ = some (.int .i64 (l.getD t 0)) := by
    rcases h.2 with h0 | ⟨b, o, e, _, hc⟩
    · exact Or.inl h0
    · exact Or.inr ⟨b, o, e, hc⟩
  clear h
  go_enter Tryd.func91, Tryd.ntmps91
  go_wp2_with fail
  go_loopg [8] n (fun k s8 wr => wr = w ∧ ∃ i : Nat, s8 = .int .i64 (i : Int) ∧ i ≤ n ∧ n - i = k ∧ ¬ x ∈ l.take i)
  case atStart => exact ⟨rfl, 0, rfl, by omega, by omega, by simp⟩
  case round =>
    obtain ⟨rfl, i, rfl, hi, hk, hno⟩ := hrel
    have Hno := Lib.hid hno
    clear hno
    by_cases hin : i = n
    · have h1 : ¬ (i : Int) < (n : Int) := by omega
      go_wp2_with fail
      go_ret
      refine ⟨⟨-1, rfl, ⟨fun h => absurd h (by decide), fun h => ?_⟩⟩, rfl⟩
      have := Hno.out
      rw [List.take_of_length_le (by rw [Hl.out]; omega)] at this
      exact absurd h this
    · have h1 : (i : Int) < (n : Int) := by omega
      have h0 : (0 : Int) ≤ (i : Int) := by omega
      rcases hab with h | ⟨b, o, rfl, hcell⟩
      · omega
      have hci := hcell i (by omega)
      obtain ⟨y, hy⟩ : ∃ y, l.getD i 0 = y := ⟨_, rfl⟩
      rw [hy] at hci
      have Hy := Lib.hid hy
      have Hcell := Lib.hid hcell
      clear hcell hy
      by_cases hxy : x = y
      · have hb : (x == y) = true := by simp [hxy]
        have Hxy := Lib.hid hxy
        clear hxy
        go_wp2_with fail
        go_ret
        exact ⟨⟨_, rfl, ⟨fun _ => by
          rw [Hxy.out, ← Hy.out, List.getD_eq_getElem?_getD, List.getElem?_eq_getElem (by rw [Hl.out]; omega)]
          exact List.getElem_mem _, fun _ => h0⟩⟩, rfl⟩
      · have hb : (x == y) = false := by simp [hxy]
        have Hxy := Lib.hid hxy
        clear hxy
        go_wp2_with fail
        go_roundg (n - (i + 1))
        case measure => omega
        case rel => exact ⟨rfl, i + 1, by go_num, by omega, rfl, fun h => by
          obtain ⟨t, h1, h2, h3⟩ := (mem_take_iff l x (i + 1)).1 h
          by_cases e : t = i
          · subst e; exact Hxy.out (by rw [← Hy.out, h3])
          · exact Hno.out ((mem_take_iff l x i).2 ⟨t, by omega, h2, h3⟩)⟩

set_option maxHeartbeats 400000 in
theorem Contains_any (ao : Option Addr) (n c : Nat) (l : List Int) (x : Int) (w : World) (h : IntsAt w ao n l) (hnc : n ≤ c) (hc : c ≤ 9223372036854775807) :
    Calls Tryd.prog 82 #[.slice ao n c, .int .i64 x] w fun e w' => e = .returned (.bool (decide (x ∈ l))) ∧ w' = w := by
  have Hi := Lib.hid (Index_any ao n c l x w h hnc hc)
  clear h
  go_enter Tryd.func82, Tryd.ntmps82
  go_wp2_with fail
  refine Hi.out.mono ?_
  rintro e w1 ⟨⟨k, rfl, hk⟩, rfl⟩
  have hb : decide (0 ≤ k) = decide (x ∈ l) := by rw [decide_eq_decide]; exact hk
  have Hb := Lib.hid hb
  clear hk hb
  go_wp2_with fail
  go_ret
  exact ⟨congrArg (fun b => Ending.returned (Value.bool b)) Hb.out, rfl⟩

set_option maxHeartbeats 1000000 in
theorem member_any (ao : Option Addr) (n c : Nat) (l : List Int) (x : Int) (w : World) (h : IntsAt w ao n l) (hnc : n ≤ c) (hc : c ≤ 9223372036854775807) :
    Calls Tryd.prog 30 #[.slice ao n c, .int .i64 x] w fun e w' => e = .returned (.bool (decide (x ∈ l))) ∧ w' = w := by
  have Hl := Lib.hid h.1
  have hab : n = 0 ∨ ∃ b o, ao = some ⟨b, o, none⟩ ∧ ∀ t, t < n → w.cell? ⟨b, o + t, none⟩ = some (.int .i64 (l.getD t 0)) := by
    rcases h.2 with h0 | ⟨b, o, e, _, hc⟩
    · exact Or.inl h0
    · exact Or.inr ⟨b, o, e, hc⟩
  obtain ⟨r, hr⟩ : ∃ r, decide (x ∈ l) = r := ⟨_, rfl⟩
  rw [hr]
  have Hr := Lib.hid hr
  clear h hr
  go_enter Tryd.func30, Tryd.ntmps30
  go_wp2_with fail
  go_loopg [5] n (fun k s5 wr => wr = w ∧ ∃ i : Nat, s5 = .int .i64 (i : Int) ∧ i ≤ n ∧ n - i = k ∧ ¬ x ∈ l.take i)
  case atStart => exact ⟨rfl, 0, rfl, by omega, by omega, by simp⟩
  case round =>
    obtain ⟨rfl, i, rfl, hi, hk, hno⟩ := hrel
    have Hno := Lib.hid hno
    clear hno
    by_cases hin : i = n
    · have h1 : ¬ (i : Int) < (n : Int) := by omega
      have hf : r = false := by
        rw [← Hr.out, decide_eq_false_iff_not]
        have := Hno.out
        rw [List.take_of_length_le (by rw [Hl.out]; omega)] at this
        exact this
      have HF := Lib.hid hf
      clear hf Hr
      go_wp2_with fail
      go_ret
      exact ⟨congrArg (fun b => Ending.returned (Value.bool b)) HF.out.symm, rfl⟩
    · have h1 : (i : Int) < (n : Int) := by omega
      have h0 : (0 : Int) ≤ (i : Int) := by omega
      rcases hab with h | ⟨b, o, rfl, hcell⟩
      · omega
      have hci := hcell i (by omega)
      obtain ⟨y, hy⟩ : ∃ y, l.getD i 0 = y := ⟨_, rfl⟩
      rw [hy] at hci
      have Hy := Lib.hid hy
      have Hcell := Lib.hid hcell
      clear hcell hy
      by_cases hxy : x = y
      · have hb : (y == x) = true := by simp [hxy]
        have ht : r = true := by
          rw [← Hr.out, decide_eq_true_iff, hxy, ← Hy.out, List.getD_eq_getElem?_getD, List.getElem?_eq_getElem (by rw [Hl.out]; omega)]
          exact List.getElem_mem _
        have HF := Lib.hid ht
        clear hxy ht Hr
        go_wp2_with fail
        go_ret
        exact ⟨congrArg (fun b => Ending.returned (Value.bool b)) HF.out.symm, rfl⟩
      · have hb : (y == x) = false := by simp [Ne.symm hxy]
        have Hxy := Lib.hid hxy
        clear hxy
        go_wp2_with fail
        go_roundg (n - (i + 1))
        case measure => omega
        case rel => exact ⟨rfl, i + 1, by go_num, by omega, rfl, fun h => by
          obtain ⟨t, h1, h2, h3⟩ := (mem_take_iff l x (i + 1)).1 h
          by_cases e : t = i
          · subst e; exact Hxy.out (by rw [← Hy.out, h3])
          · exact Hno.out ((mem_take_iff l x i).2 ⟨t, by omega, h2, h3⟩)⟩

set_option maxHeartbeats 1000000 in
theorem areConditions_any (ao : Option Addr) (n c : Nat) (l : List Int) (bits : Int) (w : World) (h : IntsAt w ao n l) (_hnc : n ≤ c) (_hc : c ≤ 9223372036854775807) (hb0 : 0 ≤ bits) (hb1 : bits ≤ 12) :
    Calls Tryd.prog 72 #[.slice ao n c, .int .i64 bits] w fun e w' => e = .returned (.bool (cndOk bits l)) ∧ w' = w := by
  have Hl := Lib.hid h.1
  have hab : n = 0 ∨ ∃ b o, ao = some ⟨b, o, none⟩ ∧ ∀ t, t < n → w.cell? ⟨b, o + t, none⟩ = some (.int .i64 (l.getD t 0)) := by
    rcases h.2 with h0 | ⟨b, o, e, _, hc⟩
    · exact Or.inl h0
    · exact Or.inr ⟨b, o, e, hc⟩
  obtain ⟨r, hr⟩ : ∃ r, cndOk bits l = r := ⟨_, rfl⟩
  rw [hr]
  have Hr := Lib.hid hr
  clear h hr
  by_cases hn : 24 < n
  · have h1 : (24 : Int) < (n : Int) := by omega
    have hf : r = false := by rw [← Hr.out]; unfold cndOk; rw [Hl.out]; simp; omega
    have HF := Lib.hid hf
    clear hf Hr hn
    go_enter Tryd.func72, Tryd.ntmps72
    go_wp2_with fail
    go_ret
    exact ⟨congrArg (fun b => Ending.returned (Value.bool b)) HF.out.symm, rfl⟩
  · have h1 : ¬ (24 : Int) < (n : Int) := by omega
    have hall : r = l.all (termOk bits) := by
      rw [← Hr.out]; unfold cndOk
      have : decide (l.length ≤ 24) = true := by rw [Hl.out]; simp; omega
      rw [this, Bool.true_and]
    have Hall := Lib.hid hall
    have hwb : IntKind.i64.wrap (-bits) = -bits := by rw [IntKind.wrap_i64]; omega
    clear hall Hr hn
    go_enter Tryd.func72, Tryd.ntmps72
    go_wp2_with fail
    go_loopg [12] n (fun k s12 wr => wr = w ∧ ∃ i : Nat, s12 = .int .i64 (i : Int) ∧ i ≤ n ∧ n - i = k ∧ r = (l.drop i).all (termOk bits))
    case atStart => exact ⟨rfl, 0, rfl, by omega, by omega, Hall.out⟩
    case round =>
      obtain ⟨rfl, i, rfl, hi, hk, hr⟩ := hrel
      by_cases hin : i = n
      · have h2 : ¬ (i : Int) < (n : Int) := by omega
        have ht : r = true := by rw [hr, List.drop_eq_nil_of_le (by rw [Hl.out]; omega)]; rfl
        have HF := Lib.hid ht
        clear hr ht Hall
        go_wp2_with fail
        go_ret
        exact ⟨congrArg (fun b => Ending.returned (Value.bool b)) HF.out.symm, rfl⟩
      · have h2 : (i : Int) < (n : Int) := by omega
        have h0 : (0 : Int) ≤ (i : Int) := by omega
        rcases hab with h | ⟨b, o, rfl, hcell⟩
        · omega
        have hci := hcell i (by omega)
        obtain ⟨y, hy⟩ : ∃ y, l.getD i 0 = y := ⟨_, rfl⟩
        rw [hy] at hci
        have hst := all_step (termOk bits) l i (by rw [Hl.out]; omega)
        rw [hy, ← hr] at hst
        have Hst := Lib.hid hst
        have Hcell := Lib.hid hcell
        clear hcell hy hr hst
        by_cases y0 : y = 0
        · have ht : termOk bits y = false := by simp [termOk, y0]
          have hf : r = false := by rw [Hst.out, ht]; rfl
          have HF := Lib.hid hf
          subst y0
          clear hf ht Hst Hall
          go_wp2_with fail
          go_ret
          exact ⟨congrArg (fun b => Ending.returned (Value.bool b)) HF.out.symm, rfl⟩
        · have e0 : (y == 0) = false := by simp [y0]
          by_cases y1 : y < -bits
          · have ht : termOk bits y = false := by unfold termOk; simp; omega
            have hf : r = false := by rw [Hst.out, ht]; rfl
            have HF := Lib.hid hf
            clear hf ht Hst Hall
            go_wp2_with fail
            go_ret
            exact ⟨congrArg (fun b => Ending.returned (Value.bool b)) HF.out.symm, rfl⟩
          · have e1 : decide (y < -bits) = false := by simp; omega
            by_cases y2 : bits < y
            · have ht : termOk bits y = false := by unfold termOk; simp; omega
              have hf : r = false := by rw [Hst.out, ht]; rfl
              have HF := Lib.hid hf
              clear hf ht Hst Hall
              go_wp2_with fail
              go_ret
              exact ⟨congrArg (fun b => Ending.returned (Value.bool b)) HF.out.symm, rfl⟩
            · have e2 : decide (bits < y) = false := by simp; omega
              have ht : termOk bits y = true := by unfold termOk; simp; omega
              have hst' : r = (l.drop (i + 1)).all (termOk bits) := by rw [Hst.out, ht]; rfl
              have Hst' := Lib.hid hst'
              clear ht hst' Hst y1 y2
              go_wp2_with fail
              go_roundg (n - (i + 1))
              case measure => omega
              case rel => exact ⟨rfl, i + 1, by go_num, by omega, rfl, Hst'.out⟩

end Go.Proofs.YtlokfalkhgjlbaaDoor
namespace Go.Proofs.YtlokfalkhgjlbaaDoor
open Go.RowKit

/-- The lists of an operation. -/
structure OpL (w : World) (o : Gop) (a1 : Option Addr) (n1 c1 : Nat) (a2 : Option Addr) (n2 c2 : Nat) : Prop where
  i1 : IntsAt w a1 n1 o.ctl
  h1 : n1 ≤ c1
  m1 : c1 ≤ 9223372036854775807
  i2 : IntsAt w a2 n2 o.cnd
  h2 : n2 ≤ c2
  m2 : c2 ≤ 9223372036854775807
theorem OpL.ext {w w' : World} {o : Gop} {a1 : Option Addr} {n1 c1 : Nat} {a2 : Option Addr} {n2 c2 : Nat} (h : OpL w o a1 n1 c1 a2 n2 c2) (k : Ext w w') : OpL w' o a1 n1 c1 a2 n2 c2 := ⟨h.i1.ext k, h.h1, h.m1, h.i2.ext k, h.h2, h.m2⟩

/-- The cells of an operation in a variable. -/
structure OpBx (W : World) (g : Nat) (k0 k1 : Int) (a1 : Option Addr) (n1 c1 : Nat) (k3 k4 : Int) (a2 : Option Addr) (n2 c2 : Nat) : Prop where
  row : W.heap[g]? = some (.cells #[.int .i64 k0, .int .i64 k1, .slice a1 n1 c1, .int .i64 k3, .int .i64 k4, .slice a2 n2 c2] 46 (0, 0))
section
variable {W W' : World} {g : Nat} {k0 k1 : Int} {a1 : Option Addr} {n1 c1 : Nat} {k3 k4 : Int} {a2 : Option Addr} {n2 c2 : Nat}
theorem OpBx.lt (h : OpBx W g k0 k1 a1 n1 c1 k3 k4 a2 n2 c2) : g < W.heap.size := (Array.getElem?_eq_some_iff.1 h.row).1
theorem OpBx.ext (h : OpBx W g k0 k1 a1 n1 c1 k3 k4 a2 n2 c2) (k : Ext W W') : OpBx W' g k0 k1 a1 n1 c1 k3 k4 a2 n2 c2 := ⟨(k.block _ h.lt).trans h.row⟩
theorem OpBx.x0 (h : OpBx W g k0 k1 a1 n1 c1 k3 k4 a2 n2 c2) : W.cell? ⟨g, 0, none⟩ = some (.int .i64 k0) := by rw [cell_of_row W g 0 _ _ (0, 0) h.row]; rfl
theorem OpBx.x1 (h : OpBx W g k0 k1 a1 n1 c1 k3 k4 a2 n2 c2) : W.cell? ⟨g, 1, none⟩ = some (.int .i64 k1) := by rw [cell_of_row W g 1 _ _ (0, 0) h.row]; rfl
theorem OpBx.x2 (h : OpBx W g k0 k1 a1 n1 c1 k3 k4 a2 n2 c2) : W.cell? ⟨g, 2, none⟩ = some (.slice a1 n1 c1) := by rw [cell_of_row W g 2 _ _ (0, 0) h.row]; rfl
theorem OpBx.x3 (h : OpBx W g k0 k1 a1 n1 c1 k3 k4 a2 n2 c2) : W.cell? ⟨g, 3, none⟩ = some (.int .i64 k3) := by rw [cell_of_row W g 3 _ _ (0, 0) h.row]; rfl
theorem OpBx.x4 (h : OpBx W g k0 k1 a1 n1 c1 k3 k4 a2 n2 c2) : W.cell? ⟨g, 4, none⟩ = some (.int .i64 k4) := by rw [cell_of_row W g 4 _ _ (0, 0) h.row]; rfl
theorem OpBx.x5 (h : OpBx W g k0 k1 a1 n1 c1 k3 k4 a2 n2 c2) : W.cell? ⟨g, 5, none⟩ = some (.slice a2 n2 c2) := by rw [cell_of_row W g 5 _ _ (0, 0) h.row]; rfl
theorem OpBx.f (h : OpBx W g k0 k1 a1 n1 c1 k3 k4 a2 n2 c2) (o : Nat) : W.frozen? ⟨g, o, none⟩ = false := frozen_of_row W g o _ _ h.row
theorem opbx_new (w : World) (k0 k1 : Int) (a1 : Option Addr) (n1 c1 : Nat) (k3 k4 : Int) (a2 : Option Addr) (n2 c2 : Nat) : OpBx (w.alloc (.cells #[.int .i64 k0, .int .i64 k1, .slice a1 n1 c1, .int .i64 k3, .int .i64 k4, .slice a2 n2 c2] 46)) w.heap.size k0 k1 a1 n1 c1 k3 k4 a2 n2 c2 := ⟨heap_alloc_new w _⟩
end
theorem cell_ext {w w' : World} {b o : Nat} {v : Value} (h : w.cell? ⟨b, o, none⟩ = some v) (k : Ext w w') : w'.cell? ⟨b, o, none⟩ = some v :=
  (k.cell (p := ⟨b, o, none⟩) (World.block_lt_of_cell? w ⟨b, o, none⟩ h)).trans h
theorem ext_al (w : World) (o : Obj) : Ext w (w.alloc o) := (Below.refl _ _).alloc (Nat.le_refl _) o

set_option maxHeartbeats 2000000 in
theorem checkControls_any (k0 k1 : Int) (a1 : Option Addr) (n1 c1 : Nat) (q k4 : Int) (a2 : Option Addr) (n2 c2 : Nat) (l : List Int) (n : Int) (w : World) (h : IntsAt w a1 n1 l) (hnc : n1 ≤ c1) (hc : c1 ≤ 9223372036854775807) :
    Calls Tryd.prog 71 #[.agg #[.int .i64 k0, .int .i64 k1, .slice a1 n1 c1, .int .i64 q, .int .i64 k4, .slice a2 n2 c2], .int .i64 n] w fun e w' => e = .returned (.int .i64 (ctlCode q n [] l)) ∧ Ext w w' := by
  have HE := Lib.hid (ext_al w (.cells #[.int .i64 k0, .int .i64 k1, .slice a1 n1 c1, .int .i64 q, .int .i64 k4, .slice a2 n2 c2] 46))
  have bx := opbx_new w k0 k1 a1 n1 c1 q k4 a2 n2 c2
  have I0 := h.ext HE.out
  have m2 := bx.x2; have m3 := bx.x3
  have Hl := Lib.hid h.1
  have hab : n1 = 0 ∨ ∃ b o, a1 = some ⟨b, o, none⟩ := by
    rcases h.2 with h0 | ⟨b, o, e, _, hc⟩
    · exact Or.inl h0
    · exact Or.inr ⟨b, o, e⟩
  obtain ⟨r, hr⟩ : ∃ r, ctlCode q n [] l = r := ⟨_, rfl⟩
  rw [hr]
  have Hr := Lib.hid hr
  clear h hr bx
  go_enter Tryd.func71, Tryd.ntmps71
  go_wp2_with fail
  generalize w.alloc (.cells #[.int .i64 k0, .int .i64 k1, .slice a1 n1 c1, .int .i64 q, .int .i64 k4, .slice a2 n2 c2] 46) = W0 at *
  have HI0 := Lib.hid I0
  clear I0
  go_loopg [10] n1 (fun k s10 wr => wr = W0 ∧ ∃ i : Nat, s10 = .int .i64 (i : Int) ∧ i ≤ n1 ∧ n1 - i = k ∧ r = ctlCode q n (l.take i) (l.drop i))
  case atStart => exact ⟨rfl, 0, rfl, by omega, by omega, Hr.out.symm⟩
  case round =>
    obtain ⟨rfl, i, rfl, hi, hk, hri⟩ := hrel
    by_cases hin : i = n1
    · have h2 : ¬ (i : Int) < (n1 : Int) := by omega
      have hz : r = 0 := by rw [hri]; exact ctlCode_end q n l i (by rw [Hl.out]; omega)
      have HF := Lib.hid hz
      clear hri hz
      go_wp2_with fail
      go_ret
      exact ⟨congrArg (fun b => Ending.returned (Value.int .i64 b)) HF.out.symm, HE.out⟩
    · have h2 : (i : Int) < (n1 : Int) := by omega
      have h0 : (0 : Int) ≤ (i : Int) := by omega
      have hic : (i : Int) ≤ (c1 : Int) := by omega
      rcases hab with h | ⟨b, o, rfl⟩
      · omega
      obtain ⟨b', o', e, _, hcell⟩ := HI0.out.at (by omega)
      cases e
      have hci := hcell i (by omega)
      obtain ⟨y, hy⟩ : ∃ y, l.getD i 0 = y := ⟨_, rfl⟩
      rw [hy] at hci
      have hst := ctlCode_step q n l i (by rw [Hl.out]; omega)
      rw [← hri, hy] at hst
      have Hst := Lib.hid hst
      have HB := Lib.hid (isBelow_any y n wr)
      have HC := Lib.hid (Contains_any (some ⟨b, o, none⟩) i c1 (l.take i) y wr (HI0.out.take i (by omega)) (by omega) hc)
      obtain ⟨bl, hbl⟩ : ∃ x, below y n = x := ⟨_, rfl⟩
      rw [hbl] at HB
      clear hcell hy hri hst
      cases bl
      · have hz : r = 10 := by rw [Hst.out, if_pos hbl]
        have HF := Lib.hid hz
        clear hz Hst hbl
        go_wp2_with fail
        refine HB.out.mono ?_
        rintro e w1 ⟨rfl, rfl⟩
        go_wp2_with fail
        go_ret
        exact ⟨congrArg (fun b => Ending.returned (Value.int .i64 b)) HF.out.symm, HE.out⟩
      · have hst1 : r = if y = q ∨ y ∈ l.take i then 12 else ctlCode q n (l.take (i + 1)) (l.drop (i + 1)) := by rw [Hst.out, if_neg (by rw [hbl]; decide)]
        have Hst1 := Lib.hid hst1
        clear hst1 Hst hbl
        by_cases hyq : y = q
        · have hb : (y == q) = true := by simp [hyq]
          have hz : r = 12 := by rw [Hst1.out, if_pos (Or.inl hyq)]
          have HF := Lib.hid hz
          clear hz hyq Hst1
          go_wp2_with fail
          refine HB.out.mono ?_
          rintro e w1 ⟨rfl, rfl⟩
          go_wp2_with fail
          go_ret
          exact ⟨congrArg (fun b => Ending.returned (Value.int .i64 b)) HF.out.symm, HE.out⟩
        · have hb : (y == q) = false := by simp [hyq]
          have Hyq := Lib.hid hyq
          obtain ⟨bm, hbm⟩ : ∃ x, decide (y ∈ l.take i) = x := ⟨_, rfl⟩
          rw [hbm] at HC
          clear hyq
          cases bm
          · have hz : r = ctlCode q n (l.take (i + 1)) (l.drop (i + 1)) := by rw [Hst1.out, if_neg (fun h => h.elim Hyq.out (of_decide_eq_false hbm))]
            have HF := Lib.hid hz
            clear hz hbm Hst1
            go_wp2_with fail
            refine HB.out.mono ?_
            rintro e w1 ⟨rfl, rfl⟩
            go_wp2_with fail
            refine HC.out.mono ?_
            rintro e w1 ⟨rfl, rfl⟩
            go_wp2_with fail
            go_roundg (n1 - (i + 1))
            case measure => omega
            case rel => exact ⟨rfl, i + 1, by go_num, by omega, rfl, HF.out⟩
          · have hz : r = 12 := by rw [Hst1.out, if_pos (Or.inr (of_decide_eq_true hbm))]
            have HF := Lib.hid hz
            clear hz hbm Hst1
            go_wp2_with fail
            refine HB.out.mono ?_
            rintro e w1 ⟨rfl, rfl⟩
            go_wp2_with fail
            refine HC.out.mono ?_
            rintro e w1 ⟨rfl, rfl⟩
            go_wp2_with fail
            go_ret
            exact ⟨congrArg (fun b => Ending.returned (Value.int .i64 b)) HF.out.symm, HE.out⟩

end Go.Proofs.YtlokfalkhgjlbaaDoor
namespace Go.Proofs.YtlokfalkhgjlbaaDoor
open Go.RowKit

/-- The words of the kinds. -/
def wordOf : Nat → ByteArray
  | 1 => ⟨#[112, 104, 97, 115, 101]⟩
  | 2 => ⟨#[120]⟩
  | 3 => ⟨#[104]⟩
  | 4 => ⟨#[112]⟩
  | 5 => ⟨#[109, 101, 97, 115, 117, 114, 101]⟩
  | 6 => ⟨#[114, 101, 115, 101, 116]⟩
  | _ => ⟨#[]⟩
/-- The program's table of kinds. -/
def Shp (w : World) : Prop := ∀ k : Nat, 1 ≤ k → k ≤ 6 →
  w.cell? ⟨0, k * 5, none⟩ = some (.string (wordOf k)) ∧ w.cell? ⟨0, k * 5 + 1, none⟩ = some (.bool (usesK k)) ∧ w.cell? ⟨0, k * 5 + 2, none⟩ = some (.bool (usesQ k)) ∧ w.cell? ⟨0, k * 5 + 3, none⟩ = some (.bool (usesC k)) ∧ w.cell? ⟨0, k * 5 + 4, none⟩ = some (.bool (usesB k))
theorem Shp.ext {w w' : World} (h : Shp w) (k : Ext w w') : Shp w' := fun n h1 h2 => by
  obtain ⟨e0, e1, e2, e3, e4⟩ := h n h1 h2
  exact ⟨cell_ext e0 k, cell_ext e1 k, cell_ext e2 k, cell_ext e3 k, cell_ext e4 k⟩

set_option maxHeartbeats 4000000 in
theorem checkOp_any (o : Gop) (a1 : Option Addr) (n1 c1 : Nat) (a2 : Option Addr) (n2 c2 : Nat) (n bits : Int) (w : World) (h : OpL w o a1 n1 c1 a2 n2 c2) (hb0 : 0 ≤ bits) (hb1 : bits ≤ 12) (hS : Shp w) :
    Calls Tryd.prog 52 #[.agg #[.int .i64 o.kind, .int .i64 o.k, .slice a1 n1 c1, .int .i64 o.q, .int .i64 o.bit, .slice a2 n2 c2], .int .i64 n, .int .i64 bits] w fun e w' => e = .returned (.int .i64 (opCode o n bits)) ∧ Ext w w' := by
  obtain ⟨r, hr⟩ : ∃ r, opCode o n bits = r := ⟨_, rfl⟩
  rw [hr]
  unfold opCode at hr
  obtain ⟨kd, k, ctl, q, bt, cnd⟩ := o
  have E0 := ext_al w (.cells #[.int .i64 kd, .int .i64 k, .slice a1 n1 c1, .int .i64 q, .int .i64 bt, .slice a2 n2 c2] 46)
  have bx := opbx_new w kd k a1 n1 c1 q bt a2 n2 c2
  have L0 := h.ext E0
  have S0 := hS.ext E0
  have m0 := bx.x0; have m1 := bx.x1; have m2 := bx.x2; have m3 := bx.x3; have m4 := bx.x4; have m5 := bx.x5; have lb := bx.lt
  have Hl := h.i1.1
  simp only at hr L0 Hl ⊢
  have HE0 := Lib.hid E0; have HL0 := Lib.hid L0; have HS0 := Lib.hid S0
  clear h hS E0 L0 S0
  by_cases hk1 : kd < 1
  · have hz : r = 8 := by rw [← hr, if_pos (Or.inl hk1)]
    have HF := Lib.hid hz
    clear hr hz bx
    go_enter Tryd.func52, Tryd.ntmps52
    go_wp2_with fail
    go_ret
    exact ⟨congrArg (fun b => Ending.returned (Value.int .i64 b)) HF.out.symm, HE0.out⟩
  by_cases hk6 : 6 < kd
  · have hz : r = 8 := by rw [← hr, if_pos (Or.inr hk6)]
    have HF := Lib.hid hz
    have d1 : decide (kd < 1) = false := by simp; omega
    clear hr hz hk1 bx
    go_enter Tryd.func52, Tryd.ntmps52
    go_wp2_with fail
    go_ret
    exact ⟨congrArg (fun b => Ending.returned (Value.int .i64 b)) HF.out.symm, HE0.out⟩
  rw [if_neg (by omega)] at hr
  obtain ⟨kn, rfl⟩ : ∃ kn : Nat, kd = (kn : Int) := ⟨kd.toNat, by omega⟩
  have d1 : decide ((kn : Int) < 1) = false := by simp; omega
  have d2 : decide ((6 : Int) < (kn : Int)) = false := by simp; omega
  have i0 : (0 : Int) ≤ (kn : Int) := by omega
  have i1 : (kn : Int) < 7 := by omega
  obtain ⟨t0, t1, t2, t3, t4⟩ := HS0.out kn (by omega) (by omega)
  obtain ⟨uK, huK⟩ : ∃ x, usesK (kn : Int) = x := ⟨_, rfl⟩
  obtain ⟨uQ, huQ⟩ : ∃ x, usesQ (kn : Int) = x := ⟨_, rfl⟩
  obtain ⟨uC, huC⟩ : ∃ x, usesC (kn : Int) = x := ⟨_, rfl⟩
  obtain ⟨uB, huB⟩ : ∃ x, usesB (kn : Int) = x := ⟨_, rfl⟩
  obtain ⟨wd, hwd⟩ : ∃ x, wordOf kn = x := ⟨_, rfl⟩
  rw [huK] at t1 hr; rw [huQ] at t2 hr; rw [huC] at t3 hr; rw [huB] at t4 hr; rw [hwd] at t0
  clear huK huQ huC huB hwd hk1 hk6 bx
  have HF1 := Lib.hid (fun wx => fits_any k 16 uK wx); have HF2 := Lib.hid (fun wx => fits_any q n uQ wx); have HF3 := Lib.hid (fun wx => fits_any bt bits uB wx)
  obtain ⟨f1, hf1⟩ : ∃ x, fitsB k 16 uK = x := ⟨_, rfl⟩
  obtain ⟨f2, hf2⟩ : ∃ x, fitsB q n uQ = x := ⟨_, rfl⟩
  obtain ⟨f3, hf3⟩ : ∃ x, fitsB bt bits uB = x := ⟨_, rfl⟩
  rw [hf1] at HF1 hr; rw [hf2] at HF2 hr; rw [hf3] at HF3 hr
  clear hf1 hf2 hf3
  have E1 := ext_al (w.alloc (.cells #[.int .i64 (kn : Int), .int .i64 k, .slice a1 n1 c1, .int .i64 q, .int .i64 bt, .slice a2 n2 c2] 46)) (.cells #[.string wd, .bool uK, .bool uQ, .bool uC, .bool uB] 118)
  have ub : ((w.alloc (.cells #[.int .i64 (kn : Int), .int .i64 k, .slice a1 n1 c1, .int .i64 q, .int .i64 bt, .slice a2 n2 c2] 46)).alloc (.cells #[.string wd, .bool uK, .bool uQ, .bool uC, .bool uB] 118)).heap[w.heap.size + 1]? = some (.cells #[.string wd, .bool uK, .bool uQ, .bool uC, .bool uB] 118 (0, 0)) := by
    have := heap_alloc_new (w.alloc (.cells #[.int .i64 (kn : Int), .int .i64 k, .slice a1 n1 c1, .int .i64 q, .int .i64 bt, .slice a2 n2 c2] 46)) (.cells #[.string wd, .bool uK, .bool uQ, .bool uC, .bool uB] 118)
    simpa using this
  have u1 : ((w.alloc (.cells #[.int .i64 (kn : Int), .int .i64 k, .slice a1 n1 c1, .int .i64 q, .int .i64 bt, .slice a2 n2 c2] 46)).alloc (.cells #[.string wd, .bool uK, .bool uQ, .bool uC, .bool uB] 118)).cell? ⟨w.heap.size + 1, 1, none⟩ = some (.bool uK) := by rw [cell_of_row _ _ 1 _ _ (0, 0) ub]; rfl
  have u2 : ((w.alloc (.cells #[.int .i64 (kn : Int), .int .i64 k, .slice a1 n1 c1, .int .i64 q, .int .i64 bt, .slice a2 n2 c2] 46)).alloc (.cells #[.string wd, .bool uK, .bool uQ, .bool uC, .bool uB] 118)).cell? ⟨w.heap.size + 1, 2, none⟩ = some (.bool uQ) := by rw [cell_of_row _ _ 2 _ _ (0, 0) ub]; rfl
  have u3 : ((w.alloc (.cells #[.int .i64 (kn : Int), .int .i64 k, .slice a1 n1 c1, .int .i64 q, .int .i64 bt, .slice a2 n2 c2] 46)).alloc (.cells #[.string wd, .bool uK, .bool uQ, .bool uC, .bool uB] 118)).cell? ⟨w.heap.size + 1, 3, none⟩ = some (.bool uC) := by rw [cell_of_row _ _ 3 _ _ (0, 0) ub]; rfl
  have u4 : ((w.alloc (.cells #[.int .i64 (kn : Int), .int .i64 k, .slice a1 n1 c1, .int .i64 q, .int .i64 bt, .slice a2 n2 c2] 46)).alloc (.cells #[.string wd, .bool uK, .bool uQ, .bool uC, .bool uB] 118)).cell? ⟨w.heap.size + 1, 4, none⟩ = some (.bool uB) := by rw [cell_of_row _ _ 4 _ _ (0, 0) ub]; rfl
  have HE1 := Lib.hid (HE0.out.trans E1); have HL1 := Lib.hid (HL0.out.ext E1)
  have v0 := cell_ext m0 E1; have v1 := cell_ext m1 E1; have v2 := cell_ext m2 E1; have v3 := cell_ext m3 E1; have v4 := cell_ext m4 E1; have v5 := cell_ext m5 E1
  have Hr := Lib.hid hr; have Hl' := Lib.hid Hl
  clear ub E1 hr Hl
  go_enter Tryd.func52, Tryd.ntmps52
  go_wp2_with fail
  generalize (w.alloc (.cells #[.int .i64 (kn : Int), .int .i64 k, .slice a1 n1 c1, .int .i64 q, .int .i64 bt, .slice a2 n2 c2] 46)).alloc (.cells #[.string wd, .bool uK, .bool uQ, .bool uC, .bool uB] 118) = W1 at *
  clear m0 m1 m2 m3 m4 m5 t0 t1 t2 t3 t4 HE0 HL0 HS0 d1 d2
  refine (HF1.out _).mono ?_
  rintro e wz ⟨rfl, rfl⟩
  cases f1
  · have HF : Hid (r = 9) := by show r = 9; rw [← Hr.out]; simp
    clear Hr
    go_wp2_with fail
    go_ret
    exact ⟨congrArg (fun b => Ending.returned (Value.int .i64 b)) HF.out.symm, HE1.out⟩
  have hr1 := Hr.out
  rw [if_neg (by decide)] at hr1
  have Hr1 := Lib.hid hr1
  clear Hr hr1
  go_wp2_with fail
  refine (HF2.out _).mono ?_
  rintro e wz ⟨rfl, rfl⟩
  cases f2
  · have HF : Hid (r = 10) := by show r = 10; rw [← Hr1.out]; simp
    clear Hr1
    go_wp2_with fail
    go_ret
    exact ⟨congrArg (fun b => Ending.returned (Value.int .i64 b)) HF.out.symm, HE1.out⟩
  have hr2 := Hr1.out
  rw [if_neg (by decide)] at hr2
  have HCC := Lib.hid (checkControls_any (kn : Int) k a1 n1 c1 q bt a2 n2 c2 ctl n wz HL1.out.i1 HL1.out.h1 HL1.out.m1)
  obtain ⟨cc, hcc⟩ : ∃ x, ctlCode q n [] ctl = x := ⟨_, rfl⟩
  rw [hcc] at HCC hr2
  have Hr2 := Lib.hid hr2
  clear Hr1 hr2 hcc
  by_cases hn0 : 0 < n1 ∧ uC = false
  · have HF : Hid (r = 11) := by show r = 11; rw [← Hr2.out, if_pos ⟨by rw [Hl'.out]; exact hn0.1, hn0.2⟩]
    have j0 : (0 : Int) < (n1 : Int) := by omega
    obtain ⟨_, rfl⟩ := hn0
    clear Hr2
    go_wp2_with fail
    go_ret
    exact ⟨congrArg (fun b => Ending.returned (Value.int .i64 b)) HF.out.symm, HE1.out⟩
  have hr3 := Hr2.out
  rw [if_neg (by rw [Hl'.out]; exact hn0)] at hr3
  have Hr3 := Lib.hid hr3
  have HOK : (decide ((0 : Int) < (n1 : Int)) = false) ∨ ((0 : Int) < (n1 : Int) ∧ uC = true) := by
    by_cases h0 : 0 < n1
    · refine Or.inr ⟨by omega, ?_⟩
      cases uC
      · exact absurd ⟨h0, rfl⟩ hn0
      · rfl
    · exact Or.inl (by simp; omega)
  clear Hr2 hr3 hn0
  rcases HOK with hd0 | ⟨j0, rfl⟩
  · have hd1 : ¬ (0 : Int) < (n1 : Int) := of_decide_eq_false hd0
    go_wp2_with fail
    refine HCC.out.mono ?_
    rintro e w2 ⟨rfl, hx2⟩
    have HE2 := Lib.hid (HE1.out.trans hx2)
    have y4 := cell_ext v4 hx2; have y5 := cell_ext v5 hx2; have z4 := cell_ext u4 hx2
    have L2 := HL1.out.ext hx2
    have HA := Lib.hid (areConditions_any a2 n2 c2 cnd bits w2 L2.i2 L2.h2 L2.m2 hb0 hb1)
    obtain ⟨ok, hok⟩ : ∃ x, cndOk bits cnd = x := ⟨_, rfl⟩
    rw [hok] at HA
    have hr3 := Hr3.out
    rw [hok] at hr3
    have Hr4 := Lib.hid hr3
    clear hok hr3 Hr3 v0 v1 v2 v3 v4 v5 u1 u2 u3 u4 L2
    by_cases hc0 : cc = 0
    · have hr4 := Hr4.out
      rw [if_neg (by simp [hc0])] at hr4
      have Hr5 := Lib.hid hr4
      have hcb : (cc != 0) = false := by simp [hc0]
      clear hr4 Hr4 hc0
      go_wp2_with fail
      refine (HF3.out _).mono ?_
      rintro e wy ⟨rfl, rfl⟩
      cases f3
      · have HF : Hid (r = 13) := by show r = 13; rw [← Hr5.out]; simp
        clear Hr5
        go_wp2_with fail
        go_ret
        exact ⟨congrArg (fun b => Ending.returned (Value.int .i64 b)) HF.out.symm, HE2.out⟩
      · have hr6 := Hr5.out
        rw [if_neg (by decide)] at hr6
        have Hr6 := Lib.hid hr6
        clear hr6 Hr5
        go_wp2_with fail
        refine HA.out.mono ?_
        rintro e wx ⟨rfl, rfl⟩
        cases ok
        · have HF : Hid (r = 14) := by show r = 14; rw [← Hr6.out]; simp
          clear Hr6
          go_wp2_with fail
          go_ret
          exact ⟨congrArg (fun b => Ending.returned (Value.int .i64 b)) HF.out.symm, HE2.out⟩
        · have HF : Hid (r = 0) := by show r = 0; rw [← Hr6.out]; simp
          clear Hr6
          go_wp2_with fail
          go_ret
          exact ⟨congrArg (fun b => Ending.returned (Value.int .i64 b)) HF.out.symm, HE2.out⟩
    · have HF : Hid (r = cc) := by show r = cc; rw [← Hr4.out, if_pos hc0]
      have hcb : (cc != 0) = true := by simp [hc0]
      clear Hr4 hc0
      go_wp2_with fail
      go_ret
      exact ⟨congrArg (fun b => Ending.returned (Value.int .i64 b)) HF.out.symm, HE2.out⟩
  · go_wp2_with fail
    refine HCC.out.mono ?_
    rintro e w2 ⟨rfl, hx2⟩
    have HE2 := Lib.hid (HE1.out.trans hx2)
    have y4 := cell_ext v4 hx2; have y5 := cell_ext v5 hx2; have z4 := cell_ext u4 hx2
    have L2 := HL1.out.ext hx2
    have HA := Lib.hid (areConditions_any a2 n2 c2 cnd bits w2 L2.i2 L2.h2 L2.m2 hb0 hb1)
    obtain ⟨ok, hok⟩ : ∃ x, cndOk bits cnd = x := ⟨_, rfl⟩
    rw [hok] at HA
    have hr3 := Hr3.out
    rw [hok] at hr3
    have Hr4 := Lib.hid hr3
    clear hok hr3 Hr3 v0 v1 v2 v3 v4 v5 u1 u2 u3 u4 L2
    by_cases hc0 : cc = 0
    · have hr4 := Hr4.out
      rw [if_neg (by simp [hc0])] at hr4
      have Hr5 := Lib.hid hr4
      have hcb : (cc != 0) = false := by simp [hc0]
      clear hr4 Hr4 hc0
      go_wp2_with fail
      refine (HF3.out _).mono ?_
      rintro e wy ⟨rfl, rfl⟩
      cases f3
      · have HF : Hid (r = 13) := by show r = 13; rw [← Hr5.out]; simp
        clear Hr5
        go_wp2_with fail
        go_ret
        exact ⟨congrArg (fun b => Ending.returned (Value.int .i64 b)) HF.out.symm, HE2.out⟩
      · have hr6 := Hr5.out
        rw [if_neg (by decide)] at hr6
        have Hr6 := Lib.hid hr6
        clear hr6 Hr5
        go_wp2_with fail
        refine HA.out.mono ?_
        rintro e wx ⟨rfl, rfl⟩
        cases ok
        · have HF : Hid (r = 14) := by show r = 14; rw [← Hr6.out]; simp
          clear Hr6
          go_wp2_with fail
          go_ret
          exact ⟨congrArg (fun b => Ending.returned (Value.int .i64 b)) HF.out.symm, HE2.out⟩
        · have HF : Hid (r = 0) := by show r = 0; rw [← Hr6.out]; simp
          clear Hr6
          go_wp2_with fail
          go_ret
          exact ⟨congrArg (fun b => Ending.returned (Value.int .i64 b)) HF.out.symm, HE2.out⟩
    · have HF : Hid (r = cc) := by show r = cc; rw [← Hr4.out, if_pos hc0]
      have hcb : (cc != 0) = true := by simp [hc0]
      clear Hr4 hc0
      go_wp2_with fail
      go_ret
      exact ⟨congrArg (fun b => Ending.returned (Value.int .i64 b)) HF.out.symm, HE2.out⟩

end Go.Proofs.YtlokfalkhgjlbaaDoor
namespace Go.Proofs.YtlokfalkhgjlbaaDoor
open Go.RowKit

/-- A test, in the walk's two forms. -/
theorem dt {p : Prop} [Decidable p] (h : p) : decide p = true := by simp [h]
theorem df {p : Prop} [Decidable p] (h : ¬ p) : decide p = false := by simp [h]
theorem nt {x y : Int} (h : ¬ x = y) : (x != y) = true := by simp [bne, h]
theorem nf' {x y : Int} (h : x = y) : (x != y) = false := by simp [bne, h]

theorem ext_drewN (w : World) (m : Nat) : Ext w (w.drewN m) := ⟨rfl, rfl, rfl, Nat.le_refl _, fun _ _ => rfl⟩

end Go.Proofs.YtlokfalkhgjlbaaDoor
namespace Go.Proofs.YtlokfalkhgjlbaaDoor
open Go.RowKit

/-- Operations, one behind the other. -/
def OpsAt (w : World) (ao : Option Addr) (n : Nat) (ops : List Gop) : Prop :=
  ops.length = n ∧ (n = 0 ∨ ∃ b o, ao = some ⟨b, o, none⟩ ∧ b < w.heap.size ∧ ∀ t g, ops[t]? = some g → ∃ (a1 : Option Addr) (n1 c1 : Nat) (a2 : Option Addr) (n2 c2 : Nat),
    w.cell? ⟨b, o + t * 6, none⟩ = some (.int .i64 g.kind) ∧ w.cell? ⟨b, o + t * 6 + 1, none⟩ = some (.int .i64 g.k) ∧ w.cell? ⟨b, o + t * 6 + 2, none⟩ = some (.slice a1 n1 c1) ∧ w.cell? ⟨b, o + t * 6 + 3, none⟩ = some (.int .i64 g.q) ∧ w.cell? ⟨b, o + t * 6 + 4, none⟩ = some (.int .i64 g.bit) ∧ w.cell? ⟨b, o + t * 6 + 5, none⟩ = some (.slice a2 n2 c2) ∧ OpL w g a1 n1 c1 a2 n2 c2)
theorem OpsAt.ext {w w' : World} {ao : Option Addr} {n : Nat} {ops : List Gop} (h : OpsAt w ao n ops) (k : Ext w w') : OpsAt w' ao n ops := by
  refine ⟨h.1, ?_⟩
  rcases h.2 with h0 | ⟨b, o, e, hb, hc⟩
  · exact Or.inl h0
  · refine Or.inr ⟨b, o, e, Nat.lt_of_lt_of_le hb k.size, fun t g hg => ?_⟩
    obtain ⟨a1, n1, c1, a2, n2, c2, e0, e1, e2, e3, e4, e5, hl⟩ := hc t g hg
    exact ⟨a1, n1, c1, a2, n2, c2, cell_ext e0 k, cell_ext e1 k, cell_ext e2 k, cell_ext e3 k, cell_ext e4 k, cell_ext e5 k, hl.ext k⟩
theorem OpsAt.at {w : World} {b o n : Nat} {ops : List Gop} (h : OpsAt w (some ⟨b, o, none⟩) n ops) (t : Nat) (g : Gop) (hg : ops[t]? = some g) : ∃ (a1 : Option Addr) (n1 c1 : Nat) (a2 : Option Addr) (n2 c2 : Nat),
    w.cell? ⟨b, o + t * 6, none⟩ = some (.int .i64 g.kind) ∧ w.cell? ⟨b, o + t * 6 + 1, none⟩ = some (.int .i64 g.k) ∧ w.cell? ⟨b, o + t * 6 + 2, none⟩ = some (.slice a1 n1 c1) ∧ w.cell? ⟨b, o + t * 6 + 3, none⟩ = some (.int .i64 g.q) ∧ w.cell? ⟨b, o + t * 6 + 4, none⟩ = some (.int .i64 g.bit) ∧ w.cell? ⟨b, o + t * 6 + 5, none⟩ = some (.slice a2 n2 c2) ∧ OpL w g a1 n1 c1 a2 n2 c2 := by
  rcases h.2 with h0 | ⟨b', o', e, hb, hc⟩
  · have := (List.getElem?_eq_some_iff.1 hg).1
    have := h.1
    omega
  · cases e
    exact hc t g hg
theorem OpsAt.some_of {w : World} {ao : Option Addr} {n : Nat} {ops : List Gop} (h : OpsAt w ao n ops) (hn : 0 < n) : ∃ b o, ao = some ⟨b, o, none⟩ := by
  rcases h.2 with h0 | ⟨b, o, e, _⟩
  · omega
  · exact ⟨b, o, e⟩

theorem opsCode_step (q b : Int) (ops : List Gop) (i : Nat) (g : Gop) (h : ops[i]? = some g) : opsCode q b i (ops.drop i) = if opCode g q b ≠ 0 then (opCode g q b, (i : Int)) else opsCode q b (i + 1) (ops.drop (i + 1)) := by
  obtain ⟨hi, e⟩ := List.getElem?_eq_some_iff.1 h
  rw [List.drop_eq_getElem_cons hi, opsCode, e]
theorem opsCode_end (q b : Int) (ops : List Gop) (i : Nat) (h : ops.length ≤ i) : opsCode q b i (ops.drop i) = (0, 0) := by
  rw [List.drop_eq_nil_of_le h]; rfl

/-- A fault in a variable. -/
structure FtB (W : World) (g : Nat) (u v : Int) : Prop where
  row : W.heap[g]? = some (.cells #[.int .i64 u, .int .i64 v] 27 (0, 0))
theorem FtB.lt {W : World} {g : Nat} {u v : Int} (h : FtB W g u v) : g < W.heap.size := (Array.getElem?_eq_some_iff.1 h.row).1
theorem FtB.ext {W W' : World} {g : Nat} {u v : Int} (h : FtB W g u v) (k : Ext W W') : FtB W' g u v := ⟨(k.block _ h.lt).trans h.row⟩
theorem FtB.x0 {W : World} {g : Nat} {u v : Int} (h : FtB W g u v) : W.cell? ⟨g, 0, none⟩ = some (.int .i64 u) := by rw [cell_of_row W g 0 _ _ (0, 0) h.row]; rfl
theorem FtB.x1 {W : World} {g : Nat} {u v : Int} (h : FtB W g u v) : W.cell? ⟨g, 1, none⟩ = some (.int .i64 v) := by rw [cell_of_row W g 1 _ _ (0, 0) h.row]; rfl
theorem FtB.f {W : World} {g : Nat} {u v : Int} (h : FtB W g u v) (o : Nat) : W.frozen? ⟨g, o, none⟩ = false := frozen_of_row W g o _ _ h.row
/-- A circuit in a variable. -/
structure CiB (W : World) (g : Nat) (qb bi : Int) (ao : Option Addr) (n cp : Nat) : Prop where
  row : W.heap[g]? = some (.cells #[.int .i64 qb, .int .i64 bi, .slice ao n cp] 34 (0, 0))
section
variable {W W' : World} {g : Nat} {qb bi : Int} {ao : Option Addr} {n cp : Nat}
theorem CiB.lt (h : CiB W g qb bi ao n cp) : g < W.heap.size := (Array.getElem?_eq_some_iff.1 h.row).1
theorem CiB.ext (h : CiB W g qb bi ao n cp) (k : Ext W W') : CiB W' g qb bi ao n cp := ⟨(k.block _ h.lt).trans h.row⟩
theorem CiB.x0 (h : CiB W g qb bi ao n cp) : W.cell? ⟨g, 0, none⟩ = some (.int .i64 qb) := by rw [cell_of_row W g 0 _ _ (0, 0) h.row]; rfl
theorem CiB.x1 (h : CiB W g qb bi ao n cp) : W.cell? ⟨g, 1, none⟩ = some (.int .i64 bi) := by rw [cell_of_row W g 1 _ _ (0, 0) h.row]; rfl
theorem CiB.x2 (h : CiB W g qb bi ao n cp) : W.cell? ⟨g, 2, none⟩ = some (.slice ao n cp) := by rw [cell_of_row W g 2 _ _ (0, 0) h.row]; rfl
end
theorem put2x {w W : World} {g : Nat} (h : Ext w W) (hg : w.heap.size ≤ g) (u v : Value) : Ext w ((W.setCell ⟨g, 0, none⟩ u).setCell ⟨g, 1, none⟩ v) := Below.setCell (Below.setCell h (p := ⟨g, 0, none⟩) hg u) (p := ⟨g, 1, none⟩) hg v

set_option maxHeartbeats 400000 in
theorem countsQubits_any (n : Int) (w : World) : Calls Tryd.prog 51 #[.int .i64 n] w fun e w' => e = .returned (.bool (decide (1 ≤ n) && decide (n ≤ 12))) ∧ w' = w := by
  by_cases h0 : 1 ≤ n
  · by_cases h1 : n ≤ 12
    · have e : (decide (1 ≤ n) && decide (n ≤ 12)) = true := by simp [h0, h1]
      rw [e]
      have d0 := dt h0
      have d1 := dt h1
      go_enter Tryd.func51, Tryd.ntmps51
      go_wp2
      go_ret
      exact ⟨rfl, rfl⟩
    · have e : (decide (1 ≤ n) && decide (n ≤ 12)) = false := by simp [h1]
      rw [e]
      have d0 := dt h0
      have d1 := df h1
      go_enter Tryd.func51, Tryd.ntmps51
      go_wp2
      go_ret
      exact ⟨rfl, rfl⟩
  · have e : (decide (1 ≤ n) && decide (n ≤ 12)) = false := by simp [h0]
    rw [e]
    have d0 := df h0
    go_enter Tryd.func51, Tryd.ntmps51
    go_wp2
    go_ret
    exact ⟨rfl, rfl⟩

set_option maxHeartbeats 400000 in
theorem rfault_any (c a : Int) (w : World) : Calls Tryd.prog 28 #[.int .i64 c, .int .i64 a] w fun e w' => e = .returned (.agg #[.int .i64 c, .int .i64 a]) ∧ Ext w w' := by
  go_enter Tryd.func28, Tryd.ntmps28
  go_wp2
  exact bodyPost_ret (v := .agg #[.int .i64 c, .int .i64 a]) (by simp [results, Tryd.results28, go_sem]) rfl ⟨rfl, ext_al _ _⟩

set_option maxHeartbeats 4000000 in
set_option maxRecDepth 100000 in
theorem Check_any (c : Gci) (ao : Option Addr) (n cp : Nat) (w : World) (h : OpsAt w ao n c.ops) (_hn : n ≤ cp) (_hcp : cp ≤ 9223372036854775807) (hS : Shp w) :
    Calls Tryd.prog 32 #[.agg #[.int .i64 c.qubits, .int .i64 c.bits, .slice ao n cp]] w fun e w' => e = .returned (.agg #[.int .i64 (chk c).1, .int .i64 (chk c).2]) ∧ Ext w w' := by
  obtain ⟨r, hr⟩ : ∃ r, chk c = r := ⟨_, rfl⟩
  rw [hr]
  obtain ⟨r0, r1⟩ := r
  unfold chk at hr
  obtain ⟨qb, bi, ops⟩ := c
  have E0 := (ext_al w (.cells #[.int .i64 qb, .int .i64 bi, .slice ao n cp] 34)).trans (ext_al _ (.cells #[.int .i64 0, .int .i64 0] 27))
  have bC : CiB ((w.alloc (.cells #[.int .i64 qb, .int .i64 bi, .slice ao n cp] 34)).alloc (.cells #[.int .i64 0, .int .i64 0] 27)) w.heap.size qb bi ao n cp := CiB.ext ⟨heap_alloc_new w _⟩ (ext_al _ _)
  have bF : FtB ((w.alloc (.cells #[.int .i64 qb, .int .i64 bi, .slice ao n cp] 34)).alloc (.cells #[.int .i64 0, .int .i64 0] 27)) (w.heap.size + 1) 0 0 := ⟨by
    have := heap_alloc_new (w.alloc (.cells #[.int .i64 qb, .int .i64 bi, .slice ao n cp] 34)) (.cells #[.int .i64 0, .int .i64 0] 27)
    simpa using this⟩
  have Hl := Lib.hid h.1
  simp only at hr Hl ⊢
  have HE0 := Lib.hid E0; have HO := Lib.hid (h.ext E0); have HC := Lib.hid bC; have HFt := Lib.hid bF; have HS := Lib.hid (hS.ext E0)
  have m0 := bC.x0; have m1 := bC.x1; have m2 := bC.x2
  have x0 := bF.x0; have x1 := bF.x1; have g0 := bF.f 0; have g1 := bF.f 1
  clear h E0 bC bF hS
  have Hcq := Lib.hid (fun wx => countsQubits_any qb wx)
  by_cases hq : qb < 1 ∨ 12 < qb
  · have hz : (r0, r1) = ((6 : Int), (0 : Int)) := by rw [← hr, if_pos hq]
    have HF0 : Hid (r0 = 6) := congrArg Prod.fst hz
    have HF1 : Hid (r1 = 0) := congrArg Prod.snd hz
    have hb : (decide (1 ≤ qb) && decide (qb ≤ 12)) = false := by simp; omega
    rw [hb] at Hcq
    clear hr hz hq hb
    go_enter Tryd.func32, Tryd.ntmps32
    go_wp2_with fail
    generalize (w.alloc (.cells #[.int .i64 qb, .int .i64 bi, .slice ao n cp] 34)).alloc (.cells #[.int .i64 0, .int .i64 0] 27) = W0 at *
    refine (Hcq.out _).mono ?_
    rintro e wz ⟨rfl, rfl⟩
    go_wp2_with fail
    exact bodyPost_ret (v := .agg #[.int .i64 6, .int .i64 0]) (by simp [results, Tryd.results32, go_sem, x0, x1]) rfl ⟨by rw [HF0.out, HF1.out], put2x HE0.out (by omega) _ _⟩
  rw [if_neg hq] at hr
  have hb : (decide (1 ≤ qb) && decide (qb ≤ 12)) = true := by simp; omega
  rw [hb] at Hcq
  clear hb
  by_cases hb1 : bi < 0
  · have hz : (r0, r1) = ((7 : Int), (0 : Int)) := by rw [← hr, if_pos (Or.inl hb1)]
    have HF0 : Hid (r0 = 7) := congrArg Prod.fst hz
    have HF1 : Hid (r1 = 0) := congrArg Prod.snd hz
    have d1 := dt hb1
    clear hr hz
    go_enter Tryd.func32, Tryd.ntmps32
    go_wp2_with fail
    generalize (w.alloc (.cells #[.int .i64 qb, .int .i64 bi, .slice ao n cp] 34)).alloc (.cells #[.int .i64 0, .int .i64 0] 27) = W0 at *
    refine (Hcq.out _).mono ?_
    rintro e wz ⟨rfl, rfl⟩
    go_wp2_with fail
    exact bodyPost_ret (v := .agg #[.int .i64 7, .int .i64 0]) (by simp [results, Tryd.results32, go_sem, x0, x1]) rfl ⟨by rw [HF0.out, HF1.out], put2x HE0.out (by omega) _ _⟩
  have d1 := df hb1
  by_cases hb2 : 12 < bi
  · have hz : (r0, r1) = ((7 : Int), (0 : Int)) := by rw [← hr, if_pos (Or.inr hb2)]
    have HF0 : Hid (r0 = 7) := congrArg Prod.fst hz
    have HF1 : Hid (r1 = 0) := congrArg Prod.snd hz
    have d2 := dt hb2
    clear hr hz
    go_enter Tryd.func32, Tryd.ntmps32
    go_wp2_with fail
    generalize (w.alloc (.cells #[.int .i64 qb, .int .i64 bi, .slice ao n cp] 34)).alloc (.cells #[.int .i64 0, .int .i64 0] 27) = W0 at *
    refine (Hcq.out _).mono ?_
    rintro e wz ⟨rfl, rfl⟩
    go_wp2_with fail
    exact bodyPost_ret (v := .agg #[.int .i64 7, .int .i64 0]) (by simp [results, Tryd.results32, go_sem, x0, x1]) rfl ⟨by rw [HF0.out, HF1.out], put2x HE0.out (by omega) _ _⟩
  have d2 := df hb2
  rw [if_neg (by omega), Hl.out] at hr
  by_cases hL : 4096 < n
  · have hz : (r0, r1) = ((2 : Int), (0 : Int)) := by rw [← hr, if_pos hL]
    have HF0 : Hid (r0 = 2) := congrArg Prod.fst hz
    have HF1 : Hid (r1 = 0) := congrArg Prod.snd hz
    have d3 : (4096 : Int) < (n : Int) := by omega
    clear hr hz
    go_enter Tryd.func32, Tryd.ntmps32
    go_wp2_with fail
    generalize (w.alloc (.cells #[.int .i64 qb, .int .i64 bi, .slice ao n cp] 34)).alloc (.cells #[.int .i64 0, .int .i64 0] 27) = W0 at *
    refine (Hcq.out _).mono ?_
    rintro e wz ⟨rfl, rfl⟩
    go_wp2_with fail
    exact bodyPost_ret (v := .agg #[.int .i64 2, .int .i64 0]) (by simp [results, Tryd.results32, go_sem, x0, x1]) rfl ⟨by rw [HF0.out, HF1.out], put2x HE0.out (by omega) _ _⟩
  have d3 : ¬ (4096 : Int) < (n : Int) := by omega
  rw [if_neg hL] at hr
  have Hr := Lib.hid hr
  clear hr
  have hab : n = 0 ∨ ∃ b o, ao = some ⟨b, o, none⟩ := by
    by_cases h0 : n = 0
    · exact Or.inl h0
    · exact Or.inr (HO.out.some_of (by omega))
  go_enter Tryd.func32, Tryd.ntmps32
  go_wp2_with fail
  generalize (w.alloc (.cells #[.int .i64 qb, .int .i64 bi, .slice ao n cp] 34)).alloc (.cells #[.int .i64 0, .int .i64 0] 27) = W0 at *
  refine (Hcq.out _).mono ?_
  rintro e wz ⟨rfl, rfl⟩
  go_wp2_with fail
  go_loopg [31] n (fun kk s31 wr => Ext wz wr ∧ ∃ i : Nat, s31 = .int .i64 (i : Int) ∧ i ≤ n ∧ n - i = kk ∧ (r0, r1) = opsCode qb bi i (ops.drop i))
  case atStart => exact ⟨Ext.refl _, 0, rfl, by omega, by omega, Hr.out.symm⟩
  case round =>
    obtain ⟨hER, i, rfl, hi, hk, hri⟩ := hrel
    have HER := Lib.hid hER
    have v0 := cell_ext m0 hER; have v1 := cell_ext m1 hER; have v2 := cell_ext m2 hER
    clear m0 m1 m2 x0 x1 g0 g1 hER
    by_cases hin : i = n
    · have h2 : ¬ (i : Int) < (n : Int) := by omega
      have hz : (r0, r1) = ((0 : Int), (0 : Int)) := by rw [hri]; exact opsCode_end qb bi ops i (by rw [Hl.out]; omega)
      have HF0 : Hid (r0 = 0) := congrArg Prod.fst hz
      have HF1 : Hid (r1 = 0) := congrArg Prod.snd hz
      have bz := HFt.out.ext HER.out; have x0' := bz.x0; have x1' := bz.x1; have g0' := bz.f 0; have g1' := bz.f 1
      have HEz := Lib.hid (HE0.out.trans HER.out)
      clear hz hri bz
      go_wp2_with fail
      exact bodyPost_ret (v := .agg #[.int .i64 0, .int .i64 0]) (by simp [results, Tryd.results32, go_sem, x0', x1']) rfl ⟨by rw [HF0.out, HF1.out], put2x HEz.out (by omega) _ _⟩
    · have h2 : (i : Int) < (n : Int) := by omega
      have h0 : (0 : Int) ≤ (i : Int) := by omega
      rcases hab with h | ⟨b, o, rfl⟩
      · omega
      obtain ⟨g, hg⟩ : ∃ g, ops[i]? = some g := ⟨_, List.getElem?_eq_getElem (by rw [Hl.out]; omega)⟩
      obtain ⟨a1, n1, c1, a2, n2, c2, e0, e1, e2, e3, e4, e5, hL⟩ := (HO.out.ext HER.out).at i g hg
      have hst := opsCode_step qb bi ops i g hg
      rw [← hri] at hst
      have Ea := ext_al wr (.cells #[.int .i64 g.kind, .int .i64 g.k, .slice a1 n1 c1, .int .i64 g.q, .int .i64 g.bit, .slice a2 n2 c2] 46)
      have bO := opbx_new wr g.kind g.k a1 n1 c1 g.q g.bit a2 n2 c2
      have HCO := Lib.hid (checkOp_any g a1 n1 c1 a2 n2 c2 qb bi (wr.alloc (.cells #[.int .i64 g.kind, .int .i64 g.k, .slice a1 n1 c1, .int .i64 g.q, .int .i64 g.bit, .slice a2 n2 c2] 46)) (hL.ext Ea) (by omega) (by omega) (HS.out.ext (HER.out.trans Ea)))
      obtain ⟨oc, hoc⟩ : ∃ x, opCode g qb bi = x := ⟨_, rfl⟩
      rw [hoc] at HCO hst
      have Hst := Lib.hid hst
      obtain ⟨kd, kk', ctl, qq, bb, cnd⟩ := g
      simp only at e0 e1 e2 e3 e4 e5 HCO bO Ea
      have u0 := cell_ext v0 Ea; have u1 := cell_ext v1 Ea
      have p0 := bO.x0; have p1 := bO.x1; have p2 := bO.x2; have p3 := bO.x3; have p4 := bO.x4; have p5 := bO.x5
      have HEa := Lib.hid (HER.out.trans Ea)
      clear hst hoc hri hg hL bO Ea
      go_wp2_with fail
      generalize wr.alloc (.cells #[.int .i64 kd, .int .i64 kk', .slice a1 n1 c1, .int .i64 qq, .int .i64 bb, .slice a2 n2 c2] 46) = w5 at *
      refine HCO.out.mono ?_
      rintro e w6 ⟨rfl, hx6⟩
      have HE6 := Lib.hid (HEa.out.trans hx6)
      clear v0 v1 v2 u0 u1 p0 p1 p2 p3 p4 p5 e0 e1 e2 e3 e4 e5
      by_cases hc0 : oc = 0
      · have hcb := nf' hc0
        have hz : (r0, r1) = opsCode qb bi (i + 1) (ops.drop (i + 1)) := by rw [Hst.out, if_neg (by simp [hc0])]
        have HF := Lib.hid hz
        clear hz hc0 Hst
        go_wp2_with fail
        go_roundg (n - (i + 1))
        case measure => omega
        case rel => exact ⟨HE6.out, i + 1, by go_num, by omega, rfl, HF.out⟩
      · have hcb := nt hc0
        have hz : (r0, r1) = (oc, (i : Int)) := by rw [Hst.out, if_pos hc0]
        have HF0 : Hid (r0 = oc) := congrArg Prod.fst hz
        have HF1 : Hid (r1 = (i : Int)) := congrArg Prod.snd hz
        have bz := HFt.out.ext HE6.out; have x0' := bz.x0; have x1' := bz.x1; have g0' := bz.f 0; have g1' := bz.f 1
        have HEz := Lib.hid (HE0.out.trans HE6.out)
        clear hz hc0 Hst bz
        go_wp2_with fail
        exact bodyPost_ret (v := .agg #[.int .i64 oc, .int .i64 (i : Int)]) (by simp [results, Tryd.results32, go_sem, x0', x1']) rfl ⟨by rw [HF0.out, HF1.out], put2x HEz.out (by omega) _ _⟩

end Go.Proofs.YtlokfalkhgjlbaaDoor
namespace Go.Proofs.YtlokfalkhgjlbaaDoor
open Go.RowKit

theorem i_info : (Tryd.prog.info? 3).map (fun i => (i.zero, i.size, i.bytes)) = some (some (.int .i64 0), 1, 8) := by kernel_rfl
/-- Ints as cells. -/
def iC (l : List Int) : List Value := l.map fun x => Value.int .i64 x
theorem iC_snoc (l : List Int) (x : Int) : iC (l ++ [x]) = iC l ++ [.int .i64 x] := by simp [iC]
theorem grown_ext {w a b : World} {row : Option Nat} (h : Ext w a) (hg : a.grownBy b row) (hr : ∀ k, row = some k → w.heap.size ≤ k) : Ext w b := Below.grown h hg h.size hr
/-- They lie in a block of ints. -/
def TyI (w : World) (a : Option Addr) : Prop := ∀ ad, a = some ad → ∃ (cur : Array Value) (fr : Nat × Nat), w.heap[ad.block]? = some (.cells cur 3 fr)
theorem ints_of_own {w : World} {base n : Nat} {v : Value} {l : List Int} (h : w.ownsRow base 3 1 v n (iC l)) : ∃ (a : Option Addr) (c : Nat), v = .slice a n c ∧ n ≤ c ∧ c ≤ maxLen ∧ IntsAt w a n l ∧ TyI w a := by
  have hl : l.length = n := by have := h.1; simpa [iC] using this
  rcases h.2 with ⟨rfl, rfl⟩ | ⟨g, cap, cur, rfl, _, hg, hnc, hcm, _, htk⟩
  · exact ⟨none, 0, rfl, Nat.le_refl _, Nat.zero_le _, ⟨hl, Or.inl rfl⟩, fun ad e => by cases e⟩
  · refine ⟨some ⟨g, 0, none⟩, cap, rfl, hnc, hcm, ⟨hl, Or.inr ⟨g, 0, rfl, (Array.getElem?_eq_some_iff.1 hg).1, fun t ht => ?_⟩⟩, fun ad e => by cases e; exact ⟨cur, (0, 0), hg⟩⟩
    rw [cell_of_row w g (0 + t) cur _ (0, 0) hg, Nat.zero_add]
    have h1 : (iC l)[t]? = cur.toList[t]? := by
      rw [← htk, List.getElem?_take, if_pos (by omega)]
    rw [← Array.getElem?_toList, ← h1]
    simp only [iC, List.getElem?_map, List.getD_eq_getElem?_getD]
    rw [List.getElem?_eq_getElem (by omega)]
    rfl
theorem new_i (w : World) (x : Int) (e : TypeId) : ∀ j u, ([Value.int .i64 x] : List Value)[j]? = some u → (w.alloc (.cells #[.int .i64 x] e)).cell? ((⟨w.heap.size, 0, none⟩ : Addr).add j) = some u := by
  intro j u hu
  have hadd : (⟨w.heap.size, 0, none⟩ : Addr).add j = ⟨w.heap.size, j, none⟩ := by unfold Addr.add; split <;> simp_all
  rw [hadd, cell_of_row _ _ j _ _ (0, 0) (heap_alloc_new w _)]
  match j, hu with
  | 0, hu => simpa using hu
  | k + 1, hu => simp at hu
theorem one_i (x : Int) : ∀ u ∈ ([Value.int .i64 x] : List Value), u.oneCell' = true := by
  intro u hu
  simp only [List.mem_singleton] at hu
  subst hu
  rfl
theorem own_lt {w : World} {base n size : Nat} {v : Value} {xs : List Value} {e : TypeId} (h : w.ownsRow base e size v n xs) : ∀ k, v.ownBlock = some k → base ≤ k ∧ k < w.heap.size := by
  intro k hk
  rcases h.2 with ⟨rfl, _⟩ | ⟨g, cap, cur, rfl, hb, hg, _⟩
  · simp [Value.ownBlock] at hk
  · simp [Value.ownBlock] at hk
    subst hk
    exact ⟨hb, (Array.getElem?_eq_some_iff.1 hg).1⟩

/-- An operation whose lists are its own. -/
structure OpO (w : World) (o : Gop) (a1 : Option Addr) (n1 c1 : Nat) (a2 : Option Addr) (n2 c2 : Nat) : Prop where
  l : OpL w o a1 n1 c1 a2 n2 c2
  t1 : TyI w a1
  t2 : TyI w a2
/-- A block of another kind is written. -/
theorem only_ints {w w' : World} {g : Nat} {cs : Array Value} {T : TypeId} {fr : Nat × Nat} (hg : w.heap[g]? = some (.cells cs T fr)) (hT : T ≠ 3) (hO : Only g w w') : ∀ (b : Nat) (cur : Array Value) (fr : Nat × Nat), w.heap[b]? = some (.cells cur 3 fr) → w'.heap[b]? = w.heap[b]? := by
  intro b cur fr' hb
  refine hO.block b (fun e => ?_)
  rw [e, hg] at hb
  cases hb
  exact hT rfl
theorem only1 (w : World) (g o : Nat) (u : Value) : Only g w (w.setCell ⟨g, o, none⟩ u) := (Only.refl _ _).setCell _ _
end Go.Proofs.YtlokfalkhgjlbaaDoor
namespace Go.Proofs.YtlokfalkhgjlbaaDoor

section
variable {P : Program} {ops : Array Oper} {Q : Exit → Act → World → Prop} {md : Region.Mode} {S : World → Prop} {k : Nat}

/-- In whatever order: S holds behind each operation as long as number k has not come up. -/
def anyK (P : Program) (md : Region.Mode) (ops : Array Oper) (Q : Exit → Act → World → Prop) (k : Nat) (S : World → Prop) : Nat → Array Bool → Act → World → Prop
  | 0, l, a, w => Region.ready md ops l = [] ∧ Q .normal a w
  | n + 1, l, a, w => (Region.ready md ops l = [] → Q .normal a w) ∧
      ∀ i, i ∈ Region.ready md ops l → wpOp P ops Q i (fun a' w' => ((l.setIfInBounds i true).getD k true = false → S w') ∧ anyK P md ops Q k S n (l.setIfInBounds i true) a' w') a w

theorem anyK_plain (n : Nat) : ∀ (l : Array Bool) (a : Act) (w : World), anyK P md ops Q k S n l a w → wpAny P md ops Q n l a w := by
  induction n with
  | zero => exact fun _ _ _ h => h
  | succ n ih => exact fun l a w h => ⟨h.1, fun i hi => wpOp_mono (fun a' w' h' => ih _ a' w' h'.2) (h.2 i hi)⟩

/-- Number k waits for number i, by way of others too. -/
def waits (md : Region.Mode) (ops : Array Oper) : Nat → Nat → Nat → Bool
  | 0, _, _ => false
  | n + 1, k, i => match ops[k]? with
    | some o => o.after.any fun e => Region.binds md e && (e.on == i || waits md ops n e.on i)
    | none => false

/-- What has come up has come up behind all that it waits for. -/
def closedL (md : Region.Mode) (ops : Array Oper) (l : Array Bool) : Prop :=
  ∀ j o, ops[j]? = some o → l.getD j false = true → ∀ e ∈ o.after, Region.binds md e = true → l.getD e.on false = true
def closedB (md : Region.Mode) (ops : Array Oper) (l : Array Bool) : Bool :=
  (List.range ops.size).all fun j => !(l.getD j false) || (match ops[j]? with
    | some o => o.after.all fun e => !(Region.binds md e) || l.getD e.on false
    | none => true)
theorem closedB_spec {l : Array Bool} (h : closedB md ops l = true) : closedL md ops l := by
  intro j o ho hl e he hb
  have hj : j < ops.size := (Array.getElem?_eq_some_iff.1 ho).1
  have h1 := List.all_eq_true.1 h j (List.mem_range.2 hj)
  rw [hl, ho] at h1
  have h2 : (o.after.all fun e => !(Region.binds md e) || l.getD e.on false) = true := by simpa using h1
  have h3 := Array.all_eq_true_iff_forall_mem.1 h2 e he
  rw [hb] at h3
  simpa using h3
theorem closedL_set {l : Array Bool} {j : Nat} (h : closedL md ops l) (hj : j ∈ Region.ready md ops l) : closedL md ops (l.setIfInBounds j true) := by
  intro m o ho hl e he hb
  by_cases hm : j = m
  · subst hm
    obtain ⟨_, o', ho', hall⟩ := mem_ready.1 hj
    rw [ho] at ho'
    cases ho'
    exact getD_set_true (hall e he hb)
  · rw [Go.getD_set_ne false hm] at hl
    exact getD_set_true (h m o ho hl e he hb)

theorem waits_listed {l : Array Bool} (hc : closedL md ops l) (n : Nat) : ∀ (k i : Nat), waits md ops n k i = true → (∀ o, ops[k]? = some o → ∀ e ∈ o.after, Region.binds md e = true → l.getD e.on false = true) → l.getD i false = true := by
  induction n with
  | zero => intro k i h; cases h
  | succ n ih =>
    intro k i h hk
    unfold waits at h
    cases ho : ops[k]? with
    | none => rw [ho] at h; cases h
    | some o =>
      rw [ho] at h
      obtain ⟨e, he, hb⟩ := Array.any_eq_true'.1 h
      obtain ⟨h1, h2⟩ : Region.binds md e = true ∧ (e.on = i ∨ waits md ops n e.on i = true) := by simpa using hb
      have h3 := hk o ho e he h1
      rcases h2 with h2 | h2
      · rw [← h2]; exact h3
      · exact ih e.on i h2 (fun o' ho' e' he' hb' => hc e.on o' ho' h3 e' he' hb')
theorem waits_unready {l : Array Bool} {i n : Nat} (hc : closedL md ops l) (hw : waits md ops n k i = true) (hi : i ∈ Region.ready md ops l) : k ∉ Region.ready md ops l := by
  intro hk
  obtain ⟨_, o, ho, hall⟩ := mem_ready.1 hk
  have h1 := waits_listed hc n k i hw (fun o' ho' => by rw [ho] at ho'; cases ho'; exact hall)
  have h2 := (mem_ready.1 hi).1
  rcases Nat.lt_or_ge i l.size with h | h
  · simp [h] at h1 h2
    rw [h2] at h1
    cases h1
  · simp [Array.getElem?_eq_none h] at h1

/-- Number i may be taken first, if it yields the same wherever S holds, and number k waits for it. -/
theorem anyK_first {i : Nat} {o : Oper} {v : Value} (hi : ops[i]? = some o) (hsel : ∀ (j : Nat) (o : Oper) cs b, ops[j]? = some o → o.op ≠ .select cs b)
    (hQ : ∀ c a w, Q (.panic c) (a.put o.dst v) w → Q (.panic c) a w) {N : Nat} (hw : waits md ops N k i = true) (n : Nat) :
    ∀ (l : Array Bool) (a : Act) (w : World), closedL md ops l →
      (∀ j oj, ops[j]? = some oj → j ≠ i → l.getD j true = false → (∀ e ∈ oj.after, Region.binds md e = true → e.on ≠ i) → o.apart ops oj = true) →
      i ∈ Region.ready md ops l → YieldsIf P ops S o v a → S w → l.getD k true = false →
      anyK P md ops Q k S n (l.setIfInBounds i true) (a.put o.dst v) w → anyK P md ops Q k S (n + 1) l a w := by
  induction n with
  | zero =>
    intro l a w _ _ hr hy hS _ H
    refine ⟨fun h => (by rw [h] at hr; cases hr), fun j hj => ?_⟩
    by_cases hji : j = i
    · subst hji
      exact hy.wpOp hi hS ⟨fun _ => hS, H⟩
    · have h := ready_mono hj hji
      rw [H.1] at h
      cases h
  | succ n ih =>
    intro l a w hc hfree hr hy hS hk H
    refine ⟨fun h => (by rw [h] at hr; cases hr), fun j hj => ?_⟩
    by_cases hji : j = i
    · subst hji
      exact hy.wpOp hi hS ⟨fun _ => hS, H⟩
    have hjk : j ≠ k := fun e => waits_unready hc hw hr (e ▸ hj)
    obtain ⟨hjun, oj, hoj, hall⟩ := mem_ready.1 hj
    have hnot : ∀ e ∈ oj.after, Region.binds md e = true → e.on ≠ i := by
      intro e he hb heq
      have h1 := hall e he hb
      have h0 := (mem_ready.1 hr).1
      rw [heq] at h1
      rcases Nat.lt_or_ge i l.size with h' | h'
      · simp [h'] at h0 h1
        rw [h0] at h1
        cases h1
      · simp [Array.getElem?_eq_none h'] at h1
    have h2 := wpOp_putIf hoj (hfree j oj hoj hji hjun hnot) (fun cs b => hsel i o cs b hi) (fun cs b => hsel j oj cs b hoj) hQ hy (H.2 j (ready_mono hj hji))
    have hk1 : (l.setIfInBounds j true).getD k true = false := by rw [Go.getD_set_ne true hjk]; exact hk
    have hik : i ≠ k := fun e => waits_unready hc hw hr (e ▸ hr)
    have hk2 : ((l.setIfInBounds i true).setIfInBounds j true).getD k true = false := by rw [Go.getD_set_ne true hjk, Go.getD_set_ne true hik]; exact hk
    have hfree' : ∀ m om, ops[m]? = some om → m ≠ i → (l.setIfInBounds j true).getD m true = false → (∀ e ∈ om.after, Region.binds md e = true → e.on ≠ i) → o.apart ops om = true := by
      intro m om hm hmi hun hno
      refine hfree m om hm hmi ?_ hno
      by_cases e : j = m
      · subst e; exact hjun
      · rw [Go.getD_set_ne true e] at hun; exact hun
    refine wpOp_mono (fun a' w' h3 => ?_) h2
    obtain ⟨y3, s3, r3⟩ := h3
    refine ⟨fun _ => s3 hk2, ih _ a' w' (closedL_set hc hj) hfree' (ready_mono hr (Ne.symm hji)) y3 (s3 hk2) hk1 ?_⟩
    rw [Array.setIfInBounds_comm _ _ hji]
    exact r3

theorem anyK_take {i : Nat} {o : Oper} {v : Value} {n : Nat} {l : Array Bool} {a : Act} {w : World} (hi : ops[i]? = some o)
    (hs : Region.noSelect ops = true) (hf : Region.free md ops l i = true) (hr : (Region.ready md ops l).contains i = true) {N : Nat} (hw : waits md ops N k i = true) (hc : closedB md ops l = true) (hk : l.getD k true = false)
    (hQ : ∀ c a w, Q (.panic c) (a.put o.dst v) w → Q (.panic c) a w) (hy : YieldsIf P ops S o v a) (hS : S w)
    (h : anyK P md ops Q k S n (l.setIfInBounds i true) (a.put o.dst v) w) : anyK P md ops Q k S (n + 1) l a w :=
  anyK_first hi (Region.noSelect_spec hs) hQ hw n l a w (closedB_spec hc) (Region.free_spec hi hf) (by simpa using hr) hy hS hk h

/-- One alone may come up. -/
theorem anyK_one {i : Nat} {o : Oper} {n : Nat} {l : Array Bool} {a : Act} {w : World} (hr : Region.ready md ops l = [i]) (ho : ops[i]? = some o)
    (h : ∀ K' : Act → World → Prop, Shut (∀ a w, ((l.setIfInBounds i true).getD k true = false → S w) → anyK P md ops Q k S n (l.setIfInBounds i true) a w → K' a w) → if Region.wanted o (yielded ops a.tmps) = true then Oper.wp P o a w K' Q else K' (a.put o.dst undef) w) :
    anyK P md ops Q k S (n + 1) l a w := by
  refine ⟨fun h0 => (by rw [hr] at h0; cases h0), fun j hj => ?_⟩
  rw [hr] at hj
  rcases List.mem_singleton.1 hj with rfl
  exact wpOp_step ho (fun K' hK => h K' (fun a w hS hW => hK a w ⟨hS, hW⟩))

theorem anyK_done {l : Array Bool} {a : Act} {w : World} (hr : Region.ready md ops l = []) (h : Q .normal a w) (n : Nat) : anyK P md ops Q k S n l a w := by
  cases n with
  | zero => exact ⟨hr, h⟩
  | succ n => exact ⟨fun _ => h, by rw [hr]; intro i hi; cases hi⟩

theorem wp_region_K (k : Nat) (S : World → Prop) {id : Nat} {a : Act} {w : World} (hm : P.follows .mixedOrders = true)
    (h : anyK P .any ops Q k S ops.size (Array.replicate ops.size false) a w.drew) : (Code.region id ops true).wp P Q a w :=
  wp_region_any hm (anyK_plain _ _ _ _ h)
end

end Go.Proofs.YtlokfalkhgjlbaaDoor
