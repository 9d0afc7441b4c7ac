/-
  A circuit's text, in plain bytes; the program's writers of numbers and conditions.
-/
import Derived.Test.YtpabafioofhklaaDoorMBw
import Derived.Test.YtpabafioofhklaaDoorMCp

namespace Go.Proofs.YtpabafioofhklaaDoor
open Go.RowKit

/-- A number with a blank ahead of it. -/
def numL (i : Int) : List UInt8 := 32 :: Lib.decDigits i.toNat
/-- A condition with a blank ahead of it. -/
def cndL (t : Int) : List UInt8 := if t < 0 then 32 :: 33 :: Lib.decDigits (bitOf t).toNat else numL (bitOf t)
/-- An operation's line, without its end. -/
def prnOp (o : Gop) : List UInt8 :=
  (wordOf o.kind.toNat).data.toList ++ (if usesK o.kind then numL o.k else []) ++ (if usesQ o.kind then numL o.q else []) ++ (if 0 < o.ctl.length then [32, 111, 110] else []) ++ o.ctl.flatMap numL
    ++ (if usesB o.kind then [32, 116, 111] ++ numL o.bit else []) ++ (if 0 < o.cnd.length then [32, 105, 102] else []) ++ o.cnd.flatMap cndL
/-- A circuit's text. -/
def prn (c : Gci) : List UInt8 := [113, 117, 98, 105, 116, 115] ++ numL c.qubits ++ [32, 98, 105, 116, 115] ++ numL c.bits ++ [10] ++ c.ops.flatMap (fun o => prnOp o ++ [10])

/-- A builder that holds a text. -/
abbrev BldT (w : World) (b : Nat) (l : List UInt8) : Prop := Bld w b (Lib.byteCells l)

theorem dd_len {i : Nat} (h : i < 100) : (Lib.decDigits i).length ≤ 2 := by
  by_cases h1 : i < 10
  · rw [Lib.decDigits_one h1]; simp
  · rw [Lib.decDigits_two h1 h]; simp
theorem numL_len {i : Int} (h : i < 100) : (numL i).length ≤ 3 := by
  have := dd_len (i := i.toNat) (by omega)
  simp [numL]; omega
theorem cndL_len {t : Int} (h : -12 ≤ t ∧ t ≤ 12) : (cndL t).length ≤ 4 := by
  have hb : bitOf t < 100 := by unfold bitOf; split <;> omega
  unfold cndL
  split
  · have := dd_len (i := (bitOf t).toNat) (by omega)
    simp; omega
  · have := numL_len hb; omega

theorem wstr (b : Nat) (l : List UInt8) (s : ByteArray) (w : World) (h : BldT w b l) (hlen : l.length + s.size ≤ 140737488355328) :
    Calls Tryd.prog 29 #[.pointer (some ⟨b, 0, none⟩), .string s] w fun e w' => e = .returned (.tuple #[.int .i64 s.size, .nilIface]) ∧ BldT w' b (l ++ s.data.toList) ∧ Wrt b w w' := by
  refine (writeString_any b _ s w h (by rw [Lib.byteCells_length]; exact hlen)).mono ?_
  intro e w' hh
  refine ⟨hh.1, ?_, hh.2.2⟩
  have := hh.2.1
  rw [Lib.strCells_eq, ← Lib.byteCells_append] at this
  exact this
theorem wblank (b : Nat) (l : List UInt8) (w : World) (h : BldT w b l) (hlen : l.length + 1 ≤ 140737488355328) :
    Calls Tryd.prog 50 #[.pointer (some ⟨b, 0, none⟩), .int .u8 32] w fun e w' => e = .returned .nilIface ∧ BldT w' b (l ++ [32]) ∧ Wrt b w w' := by
  refine (writeByte_any b _ 32 w h (by rw [Lib.byteCells_length]; exact hlen)).mono ?_
  intro e w' hh
  refine ⟨hh.1, ?_, hh.2.2⟩
  have := hh.2.1
  have e1 : Lib.byteCells (l ++ [32]) = Lib.byteCells l ++ [.int .u8 32] := by rw [Lib.byteCells_append]; rfl
  rw [← e1] at this
  exact this

set_option maxHeartbeats 1000000 in
theorem writeNumber_any (b : Nat) (l : List UInt8) (i : Int) (w : World) (h : BldT w b l) (h0 : 0 ≤ i) (hi : i < 100) (hlen : l.length + 8 ≤ 140737488355328) :
    Calls Tryd.prog 30 #[.pointer (some ⟨b, 0, none⟩), .int .i64 i] w fun e w' => e = .returned (.tuple #[]) ∧ BldT w' b (l ++ numL i) ∧ Wrt b w w' := by
  obtain ⟨k, rfl⟩ : ∃ k : Nat, i = (k : Int) := ⟨i.toNat, by omega⟩
  have hk : k < 100 := by omega
  have hd := dd_len hk
  have HB := Lib.hid h
  clear h
  go_enter Tryd.func30, Tryd.ntmps30
  go_wp2_with fail
  refine (wblank b l w HB.out (by omega)).mono ?_
  rintro e w1 ⟨rfl, h1, hW1⟩
  have H1 := Lib.hid h1; have HW1 := Lib.hid hW1
  clear h1 hW1
  go_wp2_with fail
  refine (Tryd.strconv_Itoa_small k hk w1).mono ?_
  rintro e wz ⟨rfl, rfl⟩
  go_wp2_with fail
  refine (wstr b (l ++ [32]) ⟨(Lib.decDigits k).toArray⟩ _ H1.out (by simp [ByteArray.size]; omega)).mono ?_
  rintro e w2 ⟨rfl, h2, hW2⟩
  have H2 := Lib.hid h2; have HW2 := Lib.hid hW2
  clear h2 hW2
  go_wp2_with fail
  go_end0
  exact ⟨rfl, by have := H2.out; simpa [numL] using this, HW1.out.trans HW2.out⟩

set_option maxHeartbeats 1000000 in
theorem writeCondition_any (b : Nat) (l : List UInt8) (t : Int) (w : World) (h : BldT w b l) (ht0 : t ≠ 0) (ht : -12 ≤ t ∧ t ≤ 12) (hlen : l.length + 8 ≤ 140737488355328) :
    Calls Tryd.prog 52 #[.pointer (some ⟨b, 0, none⟩), .int .i64 t] w fun e w' => e = .returned (.tuple #[]) ∧ BldT w' b (l ++ cndL t) ∧ Wrt b w w' := by
  have hb0 : 0 ≤ bitOf t := by unfold bitOf; split <;> omega
  have hb1 : bitOf t < 100 := by unfold bitOf; split <;> omega
  obtain ⟨k, hk⟩ : ∃ k : Nat, bitOf t = (k : Int) := ⟨(bitOf t).toNat, by omega⟩
  have hk1 : k < 100 := by omega
  have hd := dd_len hk1
  have hc := condition_any t w ht
  rw [hk] at hc
  have HB := Lib.hid h; have HC := Lib.hid hc
  clear h hc
  by_cases hn : t < 0
  · have hL : cndL t = 32 :: 33 :: Lib.decDigits k := by unfold cndL; rw [if_pos hn, hk]; rfl
    have q1 : decide (0 ≤ t) = false := by simp; omega
    rw [q1] at HC
    rw [hL]
    clear hL hn q1 hk hb0 hb1
    go_enter Tryd.func52, Tryd.ntmps52
    go_wp2_with fail
    refine HC.out.mono ?_
    rintro e wz ⟨rfl, rfl⟩
    go_wp2_with fail
    refine (wstr b l ⟨#[32, 33]⟩ _ HB.out (by simp [ByteArray.size]; omega)).mono ?_
    rintro e w1 ⟨rfl, h1, hW1⟩
    have H1 := Lib.hid h1; have HW1 := Lib.hid hW1
    clear h1 hW1
    go_wp2_with fail
    refine (Tryd.strconv_Itoa_small k hk1 w1).mono ?_
    rintro e wz ⟨rfl, rfl⟩
    go_wp2_with fail
    refine (wstr b _ ⟨(Lib.decDigits k).toArray⟩ _ H1.out (by simp [ByteArray.size]; omega)).mono ?_
    rintro e w2 ⟨rfl, h2, hW2⟩
    have H2 := Lib.hid h2; have HW2 := Lib.hid hW2
    clear h2 hW2
    go_wp2_with fail
    go_end0
    exact ⟨rfl, by have := H2.out; simpa using this, HW1.out.trans HW2.out⟩
  · have hL : cndL t = numL (k : Int) := by unfold cndL; rw [if_neg hn, hk]
    have q1 : decide (0 ≤ t) = true := by simp; omega
    rw [q1] at HC
    rw [hL]
    clear hL hn q1 hk hb0 hb1
    go_enter Tryd.func52, Tryd.ntmps52
    go_wp2_with fail
    refine HC.out.mono ?_
    rintro e wz ⟨rfl, rfl⟩
    go_wp2_with fail
    refine (writeNumber_any b l (k : Int) _ HB.out (by omega) (by omega) hlen).mono ?_
    rintro e w1 ⟨rfl, h1, hW1⟩
    have H1 := Lib.hid h1; have HW1 := Lib.hid hW1
    clear h1 hW1
    go_wp2_with fail
    (refine bodyPost_ret (v := .tuple #[]) (by simp [results, Tryd.results52, go_sem]) rfl ?_)
    exact ⟨rfl, H1.out, HW1.out⟩

end Go.Proofs.YtpabafioofhklaaDoor
