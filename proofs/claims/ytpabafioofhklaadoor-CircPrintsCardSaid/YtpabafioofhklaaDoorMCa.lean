/-
  Circuits: what they are, in plain numbers; what is wrong with one. Lists of ints in memory.
-/
import Derived.Test.YtpabafioofhklaaDoorMBase
import Derived.Test.YtpabafioofhklaaDoorRows
import Derived.Lib.Hide
import Derived.Deep.LoopGhost
import Derived.Deep.CutRange

namespace Go.Proofs.YtpabafioofhklaaDoor
open Go.RowKit

/-- An operation. -/
structure Gop where
  kind : Int
  k : Int
  ctl : List Int
  q : Int
  bit : Int
  cnd : List Int
/-- A circuit. -/
structure Gci where
  qubits : Int
  bits : Int
  ops : List Gop

def below (n b : Int) : Bool := decide (0 ≤ n) && decide (n < b)
def fitsB (v b : Int) (used : Bool) : Bool := if used then below v b else v == 0
def usesK (k : Int) : Bool := k == 1 || k == 4
def usesQ (k : Int) : Bool := !(k == 1)
def usesC (k : Int) : Bool := k == 2 || k == 3 || k == 4
def usesB (k : Int) : Bool := k == 5

/-- The first fault of controls; 'seen' stand ahead. -/
def ctlCode (q n : Int) : List Int → List Int → Int
  | _, [] => 0
  | seen, c :: r => if below c n = false then 10 else if c = q ∨ c ∈ seen then 12 else ctlCode q n (seen ++ [c]) r
/-- A term names a bit. -/
def termOk (bits t : Int) : Bool := !(t == 0) && decide (-bits ≤ t) && decide (t ≤ bits)
def cndOk (bits : Int) (l : List Int) : Bool := decide (l.length ≤ 24) && l.all (termOk bits)
/-- The first fault of an operation. -/
def opCode (o : Gop) (n bits : Int) : Int :=
  if o.kind < 1 ∨ 6 < o.kind then 8
  else if fitsB o.k 16 (usesK o.kind) = false then 9
  else if fitsB o.q n (usesQ o.kind) = false then 10
  else if 0 < o.ctl.length ∧ usesC o.kind = false then 11
  else if ctlCode o.q n [] o.ctl ≠ 0 then ctlCode o.q n [] o.ctl
  else if fitsB o.bit bits (usesB o.kind) = false then 13
  else if cndOk bits o.cnd = false then 14
  else 0
/-- The first fault of operations, the first of which has number i. -/
def opsCode (n bits : Int) : Nat → List Gop → Int × Int
  | _, [] => (0, 0)
  | i, o :: r => if opCode o n bits ≠ 0 then (opCode o n bits, (i : Int)) else opsCode n bits (i + 1) r
/-- The first fault of a circuit. -/
def chk (c : Gci) : Int × Int :=
  if c.qubits < 1 ∨ 12 < c.qubits then (6, 0)
  else if c.bits < 0 ∨ 12 < c.bits then (7, 0)
  else if 4096 < c.ops.length then (2, 0)
  else opsCode c.qubits c.bits 0 c.ops

theorem ctlCode_step (q n : Int) (l : List Int) (i : Nat) (h : i < l.length) : ctlCode q n (l.take i) (l.drop i) = if below (l.getD i 0) n = false then 10 else if l.getD i 0 = q ∨ l.getD i 0 ∈ l.take i then 12 else ctlCode q n (l.take (i + 1)) (l.drop (i + 1)) := by
  have h1 : l.drop i = l[i] :: l.drop (i + 1) := List.drop_eq_getElem_cons h
  have h2 : l.take (i + 1) = l.take i ++ [l[i]] := by rw [List.take_add_one, List.getElem?_eq_getElem h]; rfl
  have h3 : l.getD i 0 = l[i] := by rw [List.getD_eq_getElem?_getD, List.getElem?_eq_getElem h]; rfl
  rw [h1, ctlCode, ← h2, h3]
theorem ctlCode_end (q n : Int) (l : List Int) (i : Nat) (h : l.length ≤ i) : ctlCode q n (l.take i) (l.drop i) = 0 := by
  rw [List.drop_eq_nil_of_le h]; rfl
theorem ctlCode_range (q n : Int) (s l : List Int) : ctlCode q n s l = 0 ∨ ctlCode q n s l = 10 ∨ ctlCode q n s l = 12 := by
  induction l generalizing s with
  | nil => exact Or.inl rfl
  | cons c r ih =>
    rw [ctlCode]
    split
    · exact Or.inr (Or.inl rfl)
    · split
      · exact Or.inr (Or.inr rfl)
      · exact ih _
theorem all_step (p : Int → Bool) (l : List Int) (i : Nat) (h : i < l.length) : (l.drop i).all p = (p (l.getD i 0) && (l.drop (i + 1)).all p) := by
  have h1 : l.drop i = l[i] :: l.drop (i + 1) := List.drop_eq_getElem_cons h
  have h3 : l.getD i 0 = l[i] := by rw [List.getD_eq_getElem?_getD, List.getElem?_eq_getElem h]; rfl
  rw [h1, List.all_cons, h3]

/-- The ints l lie at ao. -/
def IntsAt (w : World) (ao : Option Addr) (n : Nat) (l : List Int) : Prop :=
  l.length = n ∧ (n = 0 ∨ ∃ b o, ao = some ⟨b, o, none⟩ ∧ b < w.heap.size ∧ ∀ t, t < n → w.cell? ⟨b, o + t, none⟩ = some (.int .i64 (l.getD t 0)))
theorem IntsAt.ext {w w' : World} {ao : Option Addr} {n : Nat} {l : List Int} (h : IntsAt w ao n l) (k : Ext w w') : IntsAt w' ao n l := by
  refine ⟨h.1, ?_⟩
  rcases h.2 with h0 | ⟨b, o, e, hb, hc⟩
  · exact Or.inl h0
  · exact Or.inr ⟨b, o, e, Nat.lt_of_lt_of_le hb k.size, fun t ht => (k.cell (p := ⟨b, o + t, none⟩) hb).trans (hc t ht)⟩
theorem IntsAt.take {w : World} {ao : Option Addr} {n : Nat} {l : List Int} (h : IntsAt w ao n l) (m : Nat) (hm : m ≤ n) : IntsAt w ao m (l.take m) := by
  refine ⟨by rw [List.length_take, h.1]; omega, ?_⟩
  rcases h.2 with h0 | ⟨b, o, e, hb, hc⟩
  · exact Or.inl (by omega)
  · refine Or.inr ⟨b, o, e, hb, fun t ht => ?_⟩
    rw [hc t (by omega), List.getD_eq_getElem?_getD, List.getD_eq_getElem?_getD, List.getElem?_take, if_pos ht]
theorem IntsAt.at {w : World} {ao : Option Addr} {n : Nat} {l : List Int} (h : IntsAt w ao n l) (hn : 0 < n) : ∃ b o, ao = some ⟨b, o, none⟩ ∧ b < w.heap.size ∧ ∀ t, t < n → w.cell? ⟨b, o + t, none⟩ = some (.int .i64 (l.getD t 0)) := by
  rcases h.2 with h0 | h
  · omega
  · exact h

set_option maxHeartbeats 400000 in
theorem isBelow_any (n b : Int) (w : World) : Calls Tryd.prog 61 #[.int .i64 n, .int .i64 b] w fun e w' => e = .returned (.bool (below n b)) ∧ w' = w := by
  by_cases h0 : 0 ≤ n
  · by_cases h1 : n < b
    · have e : below n b = true := by simp [below, h0, h1]
      rw [e]
      go_enter Tryd.func61, Tryd.ntmps61
      go_wp2
      go_ret
      exact ⟨rfl, rfl⟩
    · have e : below n b = false := by simp [below, h1]
      rw [e]
      have h1' : decide (n < b) = false := by simp [h1]
      go_enter Tryd.func61, Tryd.ntmps61
      go_wp2
      go_ret
      exact ⟨rfl, rfl⟩
  · have e : below n b = false := by simp [below, h0]
    rw [e]
    have h0' : decide (0 ≤ n) = false := by simp [h0]
    go_enter Tryd.func61, Tryd.ntmps61
    go_wp2
    go_ret
    exact ⟨rfl, rfl⟩

set_option maxHeartbeats 400000 in
theorem fits_any (v b : Int) (u : Bool) (w : World) : Calls Tryd.prog 45 #[.int .i64 v, .int .i64 b, .bool u] w fun e w' => e = .returned (.bool (fitsB v b u)) ∧ w' = w := by
  cases u
  · go_enter Tryd.func45, Tryd.ntmps45
    go_wp2
    go_ret
    exact ⟨rfl, rfl⟩
  · go_enter Tryd.func45, Tryd.ntmps45
    go_wp2_with fail
    refine (isBelow_any _ _ _).mono ?_
    rintro e w1 ⟨rfl, rfl⟩
    go_wp2_with fail
    go_ret
    exact ⟨rfl, rfl⟩

end Go.Proofs.YtpabafioofhklaaDoor
