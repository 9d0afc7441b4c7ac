/-
  Texts are put together: what strings.Builder's writing methods do in this program, where a written builder is never copied.
-/
import Derived.Test.YtfjbhiihfibbaaaDoorMCa
import Derived.Test.YtfjbhiihfibbaaaDoorShelf
import Derived.Test.YtfjbhiihfibbaaaDoorMCo

namespace Go.Proofs.YtfjbhiihfibbaaaDoor
open Go.RowKit

theorem byte_info : (Tryd.prog.info? 5).map (fun i => (i.zero, i.size, i.bytes)) = some (some (.int .u8 0), 1, 1) := by kernel_rfl
theorem bld_size : (Tryd.prog.info? 78).map (·.size) = some 2 := by kernel_rfl
theorem bld_lies : liesAt Tryd.prog Tryd.prog.depth 78 (2 / Tryd.prog.cellsOf 78) 0 78 1 = true := by kernel_rfl

/-- A builder in block b that holds these cells; all that it owns lies from b on. -/
abbrev Bld (w : World) (b : Nat) (bs : List Value) : Prop := Lib.IsBuilderF 78 5 b b bs w
/-- What is written into the builder b leaves all else as it was. -/
structure Wrt (b : Nat) (w w' : World) : Prop where
  low : Below b w w'
  oth : Lib.OthersKept 5 (some b) w w'
theorem Wrt.refl (b : Nat) (w : World) : Wrt b w w := ⟨Below.refl b w, Lib.OthersKept.refl _ _ w⟩
theorem Wrt.trans {b : Nat} {w w' w'' : World} (h : Wrt b w w') (k : Wrt b w' w'') : Wrt b w w'' := ⟨h.low.trans k.low, h.oth.trans k.oth⟩
theorem Wrt.alloc {b : Nat} {w w' : World} (h : Wrt b w w') (hb : b ≤ w'.heap.size) (o : Obj) : Wrt b w (w'.alloc o) := ⟨h.low.alloc hb o, h.oth.alloc o⟩
theorem Wrt.drew {b : Nat} {w w' : World} (h : Wrt b w w') : Wrt b w w'.drew := ⟨h.low.drew, h.oth.drew⟩
/-- A row that is no row of bytes, and not the builder's own, stands. -/
theorem Wrt.row {b : Nat} {w w' : World} (h : Wrt b w w') {g : Nat} {cs : Array Value} {t : TypeId} {fz : Nat × Nat} (hg : w.heap[g]? = some (.cells cs t fz)) (hne : g ≠ b) (ht : t ≠ 5) : w'.heap[g]? = some (.cells cs t fz) :=
  h.oth g _ hg (fun e => hne (Option.some.inj e)) (fun c f e => ht (by injection e))
/-- What lay there ahead of the builder stands. -/
theorem Wrt.ext {b : Nat} {w0 w w' : World} (h : Wrt b w w') (k : Ext w0 w) (hb : w0.heap.size ≤ b) : Ext w0 w' := Below.trans k (h.low.mono hb)
theorem Bld.lt {w : World} {b : Nat} {bs : List Value} (h : Bld w b bs) : b < w.heap.size := by rcases h with h | h <;> exact h.lt
theorem Bld.alloc {w : World} {b : Nat} {bs : List Value} (h : Bld w b bs) (o : Obj) : Bld (w.alloc o) b bs := Lib.IsBuilderF.alloc h o
theorem bld_new (w : World) : Bld (w.alloc (.cells #[.pointer none, .slice none 0 0] 78)) w.heap.size [] := Lib.IsBuilderF.of (Lib.fresh_isBuilder _ _ w)

set_option maxHeartbeats 1000000 in
set_option maxRecDepth 100000 in
theorem copyCheck_used (b : Nat) (w : World) (h0 : w.cell? ⟨b, 0, none⟩ = some (.pointer (some ⟨b, 0, none⟩))) :
    Calls Tryd.prog 71 #[.pointer (some ⟨b, 0, none⟩)] w fun e w' => e = .returned (.tuple #[]) ∧ w' = w := by
  obtain ⟨j, hj, _⟩ := Option.map_eq_some_iff.1 bld_size
  go_enter Tryd.func71, Tryd.ntmps71
  go_wp2
  rw [Lib.run_neq_ptr_same w _ Tryd.underlying75 hj]
  go_wp2
  go_end0
  exact ⟨rfl, rfl⟩

set_option maxHeartbeats 1000000 in
set_option maxRecDepth 100000 in
theorem copyCheck_fresh (b : Nat) (w : World) (h0 : w.cell? ⟨b, 0, none⟩ = some (.pointer none)) (hsh : w.shape? b = some (78, 2)) (hfz : w.frozen? ⟨b, 0, none⟩ = false) :
    Calls Tryd.prog 71 #[.pointer (some ⟨b, 0, none⟩)] w fun e w' => e = .returned (.tuple #[]) ∧ w' = w.setCell ⟨b, 0, none⟩ (.pointer (some ⟨b, 0, none⟩)) := by
  obtain ⟨j, hj, hjs⟩ := Option.map_eq_some_iff.1 bld_size
  go_enter Tryd.func71, Tryd.ntmps71
  go_wp2
  rw [Lib.run_to_unsafe w ⟨b, 0, none⟩ Tryd.underlying75 Tryd.underlying111 hj (by rw [hjs]; decide) hsh (Nat.zero_lt_succ 1)]
  simp only [Result.andThen]
  rw [Oper.upon_value]
  go_wp2
  rw [run_callFunc_extern Tryd.func86 (by kernel_rfl) (by kernel_rfl) (by kernel_rfl) (e := Extern.AbiNoEscape.same) (by kernel_rfl), Lib.run_noEscape]
  simp only [Result.andThen]
  rw [Oper.upon_value]
  go_wp2
  rw [Lib.run_from_unsafe w ⟨b, 0, none⟩ Tryd.underlying111 Tryd.underlying75 hj hsh bld_lies]
  simp only [Result.andThen]
  rw [Oper.upon_value]
  go_wp2
  go_end0
  exact ⟨rfl, rfl⟩

theorem copyCheck_any (b : Nat) (bs : List Value) (w : World) (h : Bld w b bs) :
    Calls Tryd.prog 71 #[.pointer (some ⟨b, 0, none⟩)] w fun e w' => e = .returned (.tuple #[]) ∧ Lib.BuilderAtF 78 5 b b (.pointer (some ⟨b, 0, none⟩)) bs w' ∧ Wrt b w w' := by
  cases h with
  | inl h =>
    refine (copyCheck_fresh b w h.cell0 h.shape h.frozen0).mono ?_
    intro e w' hh
    obtain ⟨he, hw⟩ := hh
    subst hw
    exact ⟨he, h.used _, ⟨Below.setCell (Below.refl b w) (Nat.le_refl b) _, (Lib.OthersKept.refl _ (some b) w).setCell ⟨b, 0, none⟩ rfl _⟩⟩
  | inr h =>
    refine (copyCheck_used b w h.cell0).mono ?_
    intro e w' hh
    obtain ⟨he, hw⟩ := hh
    subst hw
    exact ⟨he, h, Wrt.refl b w'⟩

theorem bld_grown {w1 w2 : World} {b : Nat} {p v : Value} {bs : List Value} {n : Nat} {row : Option Nat} (hbk : w1.heap[b]? = some (.cells #[p, v] 78 (0, 0))) (_hown : w1.ownsRowF b 5 1 v n bs) (hne : v.ownBlock ≠ some b) (hg : w1.grownBy w2 row) (hr : row = v.ownBlock) :
    w2.heap[b]? = some (.cells #[p, v] 78 (0, 0)) := by
  subst hr
  rw [hg.block b (Array.getElem?_eq_some_iff.1 hbk).1 (fun e => hne e.symm)]; exact hbk

set_option maxHeartbeats 2000000 in
set_option maxRecDepth 100000 in
/-- A text is written. -/
theorem writeString_any (b : Nat) (bs : List Value) (s : ByteArray) (w : World) (h : Bld w b bs) (hlen : bs.length + s.size ≤ 140737488355328) :
    Calls Tryd.prog 55 #[.pointer (some ⟨b, 0, none⟩), .string s] w fun e w' => e = .returned (.tuple #[.int .i64 s.size, .nilIface]) ∧ Bld w' b (bs ++ Lib.strCells s) ∧ Wrt b w w' := by
  obtain ⟨i0, hi, hz0, hz1, hz2⟩ := info_parts byte_info
  have hbw := h.lt
  go_enter Tryd.func55, Tryd.ntmps55
  go_wp2_with fail
  refine (copyCheck_any b bs w h).mono ?_
  rintro e w1 ⟨rfl, h1, hW1⟩
  obtain ⟨hB, v, hbk, hown, hne⟩ := h1
  have hs1 := hW1.low.size
  have c0 : w1.cell? ⟨b, 0, none⟩ = some (.pointer (some ⟨b, 0, none⟩)) := by rw [Lib.cell_of_heap hbk]; rfl
  have c1 : w1.cell? ⟨b, 1, none⟩ = some v := by rw [Lib.cell_of_heap hbk]; rfl
  go_wp2_with (at_builtin; refine Lib.wpList_append_own_stringF _ rfl _ _ 76 9 rfl b 5 i0 Tryd.underlying76 Tryd.underlying9 hi hz0 hz1 hz2 _ _ _ rfl hown s rfl ?b1 ?b2 ?b3 ?_)
  case b1 => unfold maxLen; omega
  case b2 => omega
  case b3 => omega
  intro v' w2 hown' hgrow _
  have hb2 := bld_grown hbk hown hne hgrow rfl
  have d0 : w2.cell? ⟨b, 0, none⟩ = some (.pointer (some ⟨b, 0, none⟩)) := by rw [Lib.cell_of_heap hb2]; rfl
  have d1 : w2.cell? ⟨b, 1, none⟩ = some v := by rw [Lib.cell_of_heap hb2]; rfl
  have f1 : w2.frozen? ⟨b, 1, none⟩ = false := Lib.frozen_of_heap hb2 1
  obtain ⟨ao, n', cap, rfl⟩ : ∃ ao n' cap, v' = .slice ao n' cap := by
    rcases hown'.2 with ⟨hv, _⟩ | ⟨g, cap, cur, fz, hv, _⟩ <;> exact ⟨_, _, _, hv⟩
  have HF := Lib.hid (show Bld (w2.setCell ⟨b, 1, none⟩ (.slice ao n' cap)) b (bs ++ Lib.strCells s) from Or.inr (Lib.BuilderAtF.put (T := 78) (e := 5) (Nat.le_refl b) hb2 (bs' := bs ++ Lib.strCells s) (by simpa [Lib.strCells_length] using hown') (by decide)))
  have HW := Lib.hid (show Wrt b w (w2.setCell ⟨b, 1, none⟩ (.slice ao n' cap)) from ⟨(hW1.low.grown hgrow (by omega) (fun k hk => (hown.lt k hk).1)).setCell (p := ⟨b, 1, none⟩) (Nat.le_refl b) _, (hW1.oth.grown hgrow (Lib.ownsRowF_kind hown)).setCell ⟨b, 1, none⟩ rfl _⟩)
  go_wp2
  go_ret2
  exact ⟨rfl, HF.out, HW.out⟩

set_option maxHeartbeats 2000000 in
set_option maxRecDepth 100000 in
/-- A byte is written. -/
theorem writeByte_any (b : Nat) (bs : List Value) (c : Int) (w : World) (h : Bld w b bs) (hlen : bs.length + 1 ≤ 140737488355328) :
    Calls Tryd.prog 72 #[.pointer (some ⟨b, 0, none⟩), .int .u8 c] w fun e w' => e = .returned .nilIface ∧ Bld w' b (bs ++ [.int .u8 c]) ∧ Wrt b w w' := by
  obtain ⟨i0, hi, hz0, hz1, hz2⟩ := info_parts byte_info
  have hbw := h.lt
  go_enter Tryd.func72, Tryd.ntmps72
  go_wp2_with fail
  refine (copyCheck_any b bs w h).mono ?_
  rintro e w1 ⟨rfl, h1, hW1⟩
  obtain ⟨hB, v, hbk, hown, hne⟩ := h1
  have hs1 := hW1.low.size
  have c0 : w1.cell? ⟨b, 0, none⟩ = some (.pointer (some ⟨b, 0, none⟩)) := by rw [Lib.cell_of_heap hbk]; rfl
  have c1 : w1.cell? ⟨b, 1, none⟩ = some v := by rw [Lib.cell_of_heap hbk]; rfl
  go_wp2_with (at_builtin; refine wpList_append_ownF _ rfl _ _ 76 rfl b 5 i0 (.int .u8 0) 1 1 Tryd.underlying76 hi hz0 hz1 hz2 rfl (by decide) _ _ _ rfl (hown.alloc _) ⟨w1.heap.size, 0, none⟩ 1 1 [.int .u8 c] rfl rfl ?b0 ?b1 ?b2 ?b3 ?b4 ?_)
  case b0 =>
    intro j u hj
    cases j with
    | zero => simp at hj; subst hj; simp [Addr.add]
    | succ j => simp at hj
  case b1 => intro u hu; simp at hu; subst hu; rfl
  case b2 => unfold maxLen; omega
  case b3 => omega
  case b4 => simp; omega
  intro v' w2 hown' hgrow _
  have hbk' : (w1.alloc (.cells #[.int .u8 c] 5)).heap[b]? = some (.cells #[.pointer (some ⟨b, 0, none⟩), v] 78 (0, 0)) := by rw [Lib.alloc_old w1 _ b (by omega)]; exact hbk
  have hb2 := bld_grown hbk' (hown.alloc _) hne hgrow rfl
  have d0 : w2.cell? ⟨b, 0, none⟩ = some (.pointer (some ⟨b, 0, none⟩)) := by rw [Lib.cell_of_heap hb2]; rfl
  have d1 : w2.cell? ⟨b, 1, none⟩ = some v := by rw [Lib.cell_of_heap hb2]; rfl
  have f1 : w2.frozen? ⟨b, 1, none⟩ = false := Lib.frozen_of_heap hb2 1
  obtain ⟨ao, n', cap, rfl⟩ : ∃ ao n' cap, v' = .slice ao n' cap := by
    rcases hown'.2 with ⟨hv, _⟩ | ⟨g, cap, cur, fz, hv, _⟩ <;> exact ⟨_, _, _, hv⟩
  have HF := Lib.hid (show Bld (w2.setCell ⟨b, 1, none⟩ (.slice ao n' cap)) b (bs ++ [.int .u8 c]) from Or.inr (Lib.BuilderAtF.put (T := 78) (e := 5) (Nat.le_refl b) hb2 (bs' := bs ++ [.int .u8 c]) (by simpa using hown') (by decide)))
  have HW := Lib.hid (show Wrt b w (w2.setCell ⟨b, 1, none⟩ (.slice ao n' cap)) from ⟨((hW1.low.alloc (by omega) _).grown hgrow (by simp; omega) (fun k hk => (hown.lt k hk).1)).setCell (p := ⟨b, 1, none⟩) (Nat.le_refl b) _, ((hW1.oth.alloc _).grown hgrow (Lib.ownsRowF_kind (hown.alloc _))).setCell ⟨b, 1, none⟩ rfl _⟩)
  go_wp2
  go_ret
  exact ⟨rfl, HF.out, HW.out⟩

end Go.Proofs.YtfjbhiihfibbaaaDoor

/-
  A circuit's text, in plain bytes; the program's writers of numbers and conditions.
-/
namespace Go.Proofs.YtfjbhiihfibbaaaDoor
open Go.RowKit

/-- A number with a blank ahead of it. -/
def numL (i : Int) : List UInt8 := 32 :: Lib.decDigits i.toNat
/-- A condition with a blank ahead of it. -/
def cndL (t : Int) : List UInt8 := if t < 0 then 32 :: 33 :: Lib.decDigits (bitOf t).toNat else numL (bitOf t)
/-- An operation's line, without its end. -/
def prnOp (o : Gop) : List UInt8 :=
  (wordOf o.kind.toNat).data.toList ++ (if usesK o.kind then numL o.k else []) ++ (if usesQ o.kind then numL o.q else []) ++ (if 0 < o.ctl.length then [32, 111, 110] else []) ++ o.ctl.flatMap numL
    ++ (if usesB o.kind then [32, 116, 111] ++ numL o.bit else []) ++ (if 0 < o.cnd.length then [32, 105, 102] else []) ++ o.cnd.flatMap cndL
/-- A circuit's text. -/
def prn (c : Gci) : List UInt8 := [113, 117, 98, 105, 116, 115] ++ numL c.qubits ++ [32, 98, 105, 116, 115] ++ numL c.bits ++ [10] ++ c.ops.flatMap (fun o => prnOp o ++ [10])

/-- A builder that holds a text. -/
abbrev BldT (w : World) (b : Nat) (l : List UInt8) : Prop := Bld w b (Lib.byteCells l)

theorem dd_len {i : Nat} (h : i < 100) : (Lib.decDigits i).length ≤ 2 := by
  by_cases h1 : i < 10
  · rw [Lib.decDigits_one h1]; simp
  · rw [Lib.decDigits_two h1 h]; simp
theorem numL_len {i : Int} (h : i < 100) : (numL i).length ≤ 3 := by
  have := dd_len (i := i.toNat) (by omega)
  simp [numL]; omega
theorem cndL_len {t : Int} (h : -12 ≤ t ∧ t ≤ 12) : (cndL t).length ≤ 4 := by
  have hb : bitOf t < 100 := by unfold bitOf; split <;> omega
  unfold cndL
  split
  · have := dd_len (i := (bitOf t).toNat) (by omega)
    simp; omega
  · have := numL_len hb; omega

theorem wstr (b : Nat) (l : List UInt8) (s : ByteArray) (w : World) (h : BldT w b l) (hlen : l.length + s.size ≤ 140737488355328) :
    Calls Tryd.prog 55 #[.pointer (some ⟨b, 0, none⟩), .string s] w fun e w' => e = .returned (.tuple #[.int .i64 s.size, .nilIface]) ∧ BldT w' b (l ++ s.data.toList) ∧ Wrt b w w' := by
  refine (writeString_any b _ s w h (by rw [Lib.byteCells_length]; exact hlen)).mono ?_
  intro e w' hh
  refine ⟨hh.1, ?_, hh.2.2⟩
  have := hh.2.1
  rw [Lib.strCells_eq, ← Lib.byteCells_append] at this
  exact this
theorem wblank (b : Nat) (l : List UInt8) (w : World) (h : BldT w b l) (hlen : l.length + 1 ≤ 140737488355328) :
    Calls Tryd.prog 72 #[.pointer (some ⟨b, 0, none⟩), .int .u8 32] w fun e w' => e = .returned .nilIface ∧ BldT w' b (l ++ [32]) ∧ Wrt b w w' := by
  refine (writeByte_any b _ 32 w h (by rw [Lib.byteCells_length]; exact hlen)).mono ?_
  intro e w' hh
  refine ⟨hh.1, ?_, hh.2.2⟩
  have := hh.2.1
  have e1 : Lib.byteCells (l ++ [32]) = Lib.byteCells l ++ [.int .u8 32] := by rw [Lib.byteCells_append]; rfl
  rw [← e1] at this
  exact this

set_option maxHeartbeats 1000000 in
theorem writeNumber_any (b : Nat) (l : List UInt8) (i : Int) (w : World) (h : BldT w b l) (h0 : 0 ≤ i) (hi : i < 100) (hlen : l.length + 8 ≤ 140737488355328) :
    Calls Tryd.prog 56 #[.pointer (some ⟨b, 0, none⟩), .int .i64 i] w fun e w' => e = .returned (.tuple #[]) ∧ BldT w' b (l ++ numL i) ∧ Wrt b w w' := by
  obtain ⟨k, rfl⟩ : ∃ k : Nat, i = (k : Int) := ⟨i.toNat, by omega⟩
  have hk : k < 100 := by omega
  have hd := dd_len hk
  have HB := Lib.hid h
  clear h
  go_enter Tryd.func56, Tryd.ntmps56
  go_wp2_with fail
  refine (wblank b l w HB.out (by omega)).mono ?_
  rintro e w1 ⟨rfl, h1, hW1⟩
  have H1 := Lib.hid h1; have HW1 := Lib.hid hW1
  clear h1 hW1
  go_wp2_with fail
  refine (Tryd.strconv_Itoa_small k hk w1).mono ?_
  rintro e wz ⟨rfl, rfl⟩
  go_wp2_with fail
  refine (wstr b (l ++ [32]) ⟨(Lib.decDigits k).toArray⟩ _ H1.out (by simp [ByteArray.size]; omega)).mono ?_
  rintro e w2 ⟨rfl, h2, hW2⟩
  have H2 := Lib.hid h2; have HW2 := Lib.hid hW2
  clear h2 hW2
  go_wp2_with fail
  go_end0
  exact ⟨rfl, by have := H2.out; simpa [numL] using this, HW1.out.trans HW2.out⟩

set_option maxHeartbeats 1000000 in
theorem writeCondition_any (b : Nat) (l : List UInt8) (t : Int) (w : World) (h : BldT w b l) (ht0 : t ≠ 0) (ht : -12 ≤ t ∧ t ≤ 12) (hlen : l.length + 8 ≤ 140737488355328) :
    Calls Tryd.prog 74 #[.pointer (some ⟨b, 0, none⟩), .int .i64 t] w fun e w' => e = .returned (.tuple #[]) ∧ BldT w' b (l ++ cndL t) ∧ Wrt b w w' := by
  have hb0 : 0 ≤ bitOf t := by unfold bitOf; split <;> omega
  have hb1 : bitOf t < 100 := by unfold bitOf; split <;> omega
  obtain ⟨k, hk⟩ : ∃ k : Nat, bitOf t = (k : Int) := ⟨(bitOf t).toNat, by omega⟩
  have hk1 : k < 100 := by omega
  have hd := dd_len hk1
  have hc := condition_any t w ht
  rw [hk] at hc
  have HB := Lib.hid h; have HC := Lib.hid hc
  clear h hc
  by_cases hn : t < 0
  · have hL : cndL t = 32 :: 33 :: Lib.decDigits k := by unfold cndL; rw [if_pos hn, hk]; rfl
    have q1 : decide (0 ≤ t) = false := by simp; omega
    rw [q1] at HC
    rw [hL]
    clear hL hn q1 hk hb0 hb1
    go_enter Tryd.func74, Tryd.ntmps74
    go_wp2_with fail
    refine HC.out.mono ?_
    rintro e wz ⟨rfl, rfl⟩
    go_wp2_with fail
    refine (wstr b l ⟨#[32, 33]⟩ _ HB.out (by simp [ByteArray.size]; omega)).mono ?_
    rintro e w1 ⟨rfl, h1, hW1⟩
    have H1 := Lib.hid h1; have HW1 := Lib.hid hW1
    clear h1 hW1
    go_wp2_with fail
    refine (Tryd.strconv_Itoa_small k hk1 w1).mono ?_
    rintro e wz ⟨rfl, rfl⟩
    go_wp2_with fail
    refine (wstr b _ ⟨(Lib.decDigits k).toArray⟩ _ H1.out (by simp [ByteArray.size]; omega)).mono ?_
    rintro e w2 ⟨rfl, h2, hW2⟩
    have H2 := Lib.hid h2; have HW2 := Lib.hid hW2
    clear h2 hW2
    go_wp2_with fail
    go_end0
    exact ⟨rfl, by have := H2.out; simpa using this, HW1.out.trans HW2.out⟩
  · have hL : cndL t = numL (k : Int) := by unfold cndL; rw [if_neg hn, hk]
    have q1 : decide (0 ≤ t) = true := by simp; omega
    rw [q1] at HC
    rw [hL]
    clear hL hn q1 hk hb0 hb1
    go_enter Tryd.func74, Tryd.ntmps74
    go_wp2_with fail
    refine HC.out.mono ?_
    rintro e wz ⟨rfl, rfl⟩
    go_wp2_with fail
    refine (writeNumber_any b l (k : Int) _ HB.out (by omega) (by omega) hlen).mono ?_
    rintro e w1 ⟨rfl, h1, hW1⟩
    have H1 := Lib.hid h1; have HW1 := Lib.hid hW1
    clear h1 hW1
    go_wp2_with fail
    (refine bodyPost_ret (v := .tuple #[]) (by simp [results, Tryd.results74, go_sem]) rfl ?_)
    exact ⟨rfl, H1.out, HW1.out⟩

end Go.Proofs.YtfjbhiihfibbaaaDoor

/-
  The program's writer of an operation.
-/
namespace Go.Proofs.YtfjbhiihfibbaaaDoor
open Go.RowKit

/-- What a checked operation keeps to. -/
structure PrFit (o : Gop) : Prop where
  kd : 1 ≤ o.kind ∧ o.kind ≤ 6
  k : 0 ≤ o.k ∧ o.k < 100
  q : 0 ≤ o.q ∧ o.q < 100
  bit : 0 ≤ o.bit ∧ o.bit < 100
  ctl : ∀ c ∈ o.ctl, 0 ≤ c ∧ c < 100
  few : o.ctl.length ≤ 12
  cnd : ∀ t ∈ o.cnd, t ≠ 0 ∧ -12 ≤ t ∧ t ≤ 12
  cfew : o.cnd.length ≤ 24

/-- While an operation is written: what is written so far, and the two variables. -/
structure WoS (w W : World) (b H : Nat) (l : List UInt8) (k0 k1 : Int) (a1 : Option Addr) (n1 c1 : Nat) (k3 k4 : Int) (a2 : Option Addr) (n2 c2 : Nat) (wd : ByteArray) (uK uQ uC uB : Bool) : Prop where
  bl : BldT W b l
  wr : Wrt b w W
  op : OpBx W H k0 k1 a1 n1 c1 k3 k4 a2 n2 c2
  sh : W.heap[H + 1]? = some (.cells #[.string wd, .bool uK, .bool uQ, .bool uC, .bool uB] 99 (0, 0))
section
variable {w W W' : World} {b H : Nat} {l l' : List UInt8} {k0 k1 : Int} {a1 : Option Addr} {n1 c1 : Nat} {k3 k4 : Int} {a2 : Option Addr} {n2 c2 : Nat} {wd : ByteArray} {uK uQ uC uB : Bool}
theorem WoS.step (h : WoS w W b H l k0 k1 a1 n1 c1 k3 k4 a2 n2 c2 wd uK uQ uC uB) (hb : b < H) (hl : BldT W' b l') (k : Wrt b W W') : WoS w W' b H l' k0 k1 a1 n1 c1 k3 k4 a2 n2 c2 wd uK uQ uC uB :=
  ⟨hl, h.wr.trans k, ⟨k.row h.op.row (by omega) (by decide)⟩, k.row h.sh (by omega) (by decide)⟩
theorem WoS.s0 (h : WoS w W b H l k0 k1 a1 n1 c1 k3 k4 a2 n2 c2 wd uK uQ uC uB) : W.cell? ⟨H + 1, 0, none⟩ = some (.string wd) := by rw [cell_of_row W _ 0 _ _ (0, 0) h.sh]; rfl
theorem WoS.s1 (h : WoS w W b H l k0 k1 a1 n1 c1 k3 k4 a2 n2 c2 wd uK uQ uC uB) : W.cell? ⟨H + 1, 1, none⟩ = some (.bool uK) := by rw [cell_of_row W _ 1 _ _ (0, 0) h.sh]; rfl
theorem WoS.s2 (h : WoS w W b H l k0 k1 a1 n1 c1 k3 k4 a2 n2 c2 wd uK uQ uC uB) : W.cell? ⟨H + 1, 2, none⟩ = some (.bool uQ) := by rw [cell_of_row W _ 2 _ _ (0, 0) h.sh]; rfl
theorem WoS.s4 (h : WoS w W b H l k0 k1 a1 n1 c1 k3 k4 a2 n2 c2 wd uK uQ uC uB) : W.cell? ⟨H + 1, 4, none⟩ = some (.bool uB) := by rw [cell_of_row W _ 4 _ _ (0, 0) h.sh]; rfl
theorem WoS.cast (h : WoS w W b H l k0 k1 a1 n1 c1 k3 k4 a2 n2 c2 wd uK uQ uC uB) (e : l = l') : WoS w W b H l' k0 k1 a1 n1 c1 k3 k4 a2 n2 c2 wd uK uQ uC uB := e ▸ h
end

theorem flat_len (f : Int → List UInt8) (m : Nat) : ∀ (l : List Int), (∀ x ∈ l, (f x).length ≤ m) → (l.flatMap f).length ≤ m * l.length := by
  intro l
  induction l with
  | nil => intro _; simp
  | cons a r ih =>
    intro h
    have h1 := h a (by simp)
    have h2 := ih (fun x hx => h x (by simp [hx]))
    rw [List.flatMap_cons, List.length_append, List.length_cons, Nat.mul_add]
    omega
theorem flat_snoc (f : Int → List UInt8) (l : List Int) (i : Nat) (h : i < l.length) : (l.take (i + 1)).flatMap f = (l.take i).flatMap f ++ f (l.getD i 0) := by
  rw [take_succ' l i h, List.flatMap_append]; simp
theorem getD_mem' {l : List Int} {i : Nat} (h : i < l.length) : l.getD i 0 ∈ l := by
  rw [List.getD_eq_getElem?_getD, List.getElem?_eq_getElem h]; exact List.getElem_mem _

set_option maxHeartbeats 4000000 in
set_option maxRecDepth 100000 in
theorem writeOp_any (o : Gop) (a1 : Option Addr) (n1 c1 : Nat) (a2 : Option Addr) (n2 c2 : Nat) (b : Nat) (l : List UInt8) (W0 w : World) (hE : Ext W0 w) (hW0 : W0.heap.size ≤ b) (hL : OpL W0 o a1 n1 c1 a2 n2 c2) (hS : Shp W0) (hf : PrFit o) (hB : BldT w b l) (hlen : l.length + 400 ≤ 140737488355328) :
    Calls Tryd.prog 57 #[.pointer (some ⟨b, 0, none⟩), .agg #[.int .i64 o.kind, .int .i64 o.k, .slice a1 n1 c1, .int .i64 o.q, .int .i64 o.bit, .slice a2 n2 c2]] w fun e w' => e = .returned (.tuple #[]) ∧ BldT w' b (l ++ prnOp o) ∧ Wrt b w w' := by
  obtain ⟨R, hR⟩ : ∃ R, l ++ prnOp o = R := ⟨_, rfl⟩
  rw [hR]
  obtain ⟨kd, k, ctl, q, bt, cnd⟩ := o
  obtain ⟨fkd, fk, fq, fbt, fctl, ffew, fcnd, fcfew⟩ := hf
  simp only at fkd fk fq fbt fctl ffew fcnd fcfew hL
  obtain ⟨kn, rfl⟩ : ∃ kn : Nat, kd = (kn : Int) := ⟨kd.toNat, by omega⟩
  have i0 : (0 : Int) ≤ (kn : Int) := by omega
  have i1 : (kn : Int) < 7 := by omega
  have hw7 : (wordOf kn).data.toList.length ≤ 7 := by
    have : kn = 1 ∨ kn = 2 ∨ kn = 3 ∨ kn = 4 ∨ kn = 5 ∨ kn = 6 := by omega
    rcases this with rfl | rfl | rfl | rfl | rfl | rfl <;> decide
  unfold prnOp at hR
  simp only at hR
  have hR0 : (Int.toNat (kn : Int)) = kn := by omega
  rw [hR0] at hR
  have E1 := hE.trans (ext_al w (.cells #[.int .i64 (kn : Int), .int .i64 k, .slice a1 n1 c1, .int .i64 q, .int .i64 bt, .slice a2 n2 c2] 58))
  obtain ⟨t0, t1, t2, t3, t4⟩ := (hS.ext E1) kn (by omega) (by omega)
  obtain ⟨uK, huK⟩ : ∃ x, usesK (kn : Int) = x := ⟨_, rfl⟩
  obtain ⟨uQ, huQ⟩ : ∃ x, usesQ (kn : Int) = x := ⟨_, rfl⟩
  obtain ⟨uC, huC⟩ : ∃ x, usesC (kn : Int) = x := ⟨_, rfl⟩
  obtain ⟨uB, huB⟩ : ∃ x, usesB (kn : Int) = x := ⟨_, rfl⟩
  obtain ⟨wd, hwd⟩ : ∃ x, wordOf kn = x := ⟨_, rfl⟩
  rw [huK] at t1 hR; rw [huQ] at t2 hR; rw [huC] at t3; rw [huB] at t4 hR; rw [hwd] at t0 hR hw7
  have bx := opbx_new w (kn : Int) k a1 n1 c1 q bt a2 n2 c2
  have m0 := bx.x0; have m1 := bx.x1; have m2 := bx.x2; have m3 := bx.x3; have m4 := bx.x4; have m5 := bx.x5
  have hbw := hB.lt
  have S0 : WoS w ((w.alloc (.cells #[.int .i64 (kn : Int), .int .i64 k, .slice a1 n1 c1, .int .i64 q, .int .i64 bt, .slice a2 n2 c2] 58)).alloc (.cells #[.string wd, .bool uK, .bool uQ, .bool uC, .bool uB] 99)) b w.heap.size l (kn : Int) k a1 n1 c1 q bt a2 n2 c2 wd uK uQ uC uB := by
    refine ⟨(hB.alloc _).alloc _, ((Wrt.refl b w).alloc (by omega) _).alloc (by simp; omega) _, bx.ext (ext_al _ _), ?_⟩
    have := heap_alloc_new (w.alloc (.cells #[.int .i64 (kn : Int), .int .i64 k, .slice a1 n1 c1, .int .i64 q, .int .i64 bt, .slice a2 n2 c2] 58)) (.cells #[.string wd, .bool uK, .bool uQ, .bool uC, .bool uB] 99)
    simpa using this
  have z0 := S0.s0
  have HS0 := Lib.hid S0; have HR := Lib.hid hR; have HL := Lib.hid hL; have HE := Lib.hid hE
  have Hctl := Lib.hid fctl; have Hcnd := Lib.hid fcnd
  have hq1 : n1 ≤ 12 := by rw [← hL.i1.1]; exact ffew
  have hq2 : n2 ≤ 24 := by rw [← hL.i2.1]; exact fcfew
  have Hl1 := Lib.hid hL.i1.1; have Hl2 := Lib.hid hL.i2.1
  have hsz : wd.size = wd.data.toList.length := rfl
  clear hR0 huK huQ huC huB hwd bx hB hR hL hS S0 hE E1 fctl fcnd fkd
  go_enter Tryd.func57, Tryd.ntmps57
  go_wp2_with fail
  generalize (w.alloc (.cells #[.int .i64 (kn : Int), .int .i64 k, .slice a1 n1 c1, .int .i64 q, .int .i64 bt, .slice a2 n2 c2] 58)).alloc (.cells #[.string wd, .bool uK, .bool uQ, .bool uC, .bool uB] 99) = W1 at *
  clear m0 m1 m2 m3 m4 m5 t0 t1 t2 t3 t4 z0
  refine (wstr b l wd W1 HS0.out.bl (by omega)).mono ?_
  rintro e w1 ⟨rfl, h1, hW1⟩
  obtain ⟨l1, hl1⟩ : ∃ x, l ++ wd.data.toList = x := ⟨_, rfl⟩
  rw [hl1] at h1
  have hn1 : l1.length ≤ l.length + 7 := by rw [← hl1, List.length_append]; omega
  have HS1 := Lib.hid (HS0.out.step hbw h1 hW1)
  have hR1 := HR.out
  simp only [← List.append_assoc] at hR1
  rw [hl1] at hR1
  have HR1 := Lib.hid hR1
  clear h1 hW1 HS0 HR hR1 hl1 hw7 hsz
  have z := HS1.out.s1; have y := HS1.out.op.x1
  go_upto_if 18 with fail
  go_cut [] from 9 to 70 (fun wx => WoS w wx b w.heap.size (l1 ++ (if uK = true then numL k else [])) (kn : Int) k a1 n1 c1 q bt a2 n2 c2 wd uK uQ uC uB)
  case first =>
    cases uK
    · go_wp2_with fail
      go_meet
      exact HS1.out.cast (by simp)
    · go_wp2_with fail
      refine (writeNumber_any b l1 k _ HS1.out.bl fk.1 fk.2 (by omega)).mono ?_
      rintro e w2 ⟨rfl, h2, hW2⟩
      have H2 := Lib.hid (HS1.out.step hbw h2 hW2)
      clear h2 hW2 z y HS1
      go_wp2_with fail
      go_meet
      exact H2.out.cast (by simp)
  case rest =>
  clear z y
  obtain ⟨l2, hl2⟩ : ∃ x, l1 ++ (if uK = true then numL k else []) = x := ⟨_, rfl⟩
  rw [hl2] at hcut
  have hx : (if uK = true then numL k else []).length ≤ 3 := by split; exact numL_len fk.2; simp
  have hn2 : l2.length ≤ l1.length + 3 := by rw [← hl2, List.length_append]; omega
  have HS2 := Lib.hid hcut
  have hR2 := HR1.out
  rw [hl2] at hR2
  have HR2 := Lib.hid hR2
  clear hcut HS1 HR1 hR2 hl2 hx
  have z := HS2.out.s2; have y := HS2.out.op.x3
  go_upto_if 24 with fail
  go_cut [] from 9 to 70 (fun wx => WoS w wx b w.heap.size (l2 ++ (if uQ = true then numL q else [])) (kn : Int) k a1 n1 c1 q bt a2 n2 c2 wd uK uQ uC uB)
  case first =>
    cases uQ
    · go_wp2_with fail
      go_meet
      exact HS2.out.cast (by simp)
    · go_wp2_with fail
      refine (writeNumber_any b l2 q _ HS2.out.bl fq.1 fq.2 (by omega)).mono ?_
      rintro e w2 ⟨rfl, h2, hW2⟩
      have H2 := Lib.hid (HS2.out.step hbw h2 hW2)
      clear h2 hW2 z y HS2
      go_wp2_with fail
      go_meet
      exact H2.out.cast (by simp)
  case rest =>
  clear z y
  obtain ⟨l3, hl3⟩ : ∃ x, l2 ++ (if uQ = true then numL q else []) = x := ⟨_, rfl⟩
  rw [hl3] at hcut
  have hx : (if uQ = true then numL q else []).length ≤ 3 := by split; exact numL_len fq.2; simp
  have hn3 : l3.length ≤ l2.length + 3 := by rw [← hl3, List.length_append]; omega
  have HS3 := Lib.hid hcut
  have hR3 := HR2.out
  rw [hl3] at hR3
  have HR3 := Lib.hid hR3
  clear hcut HS2 HR2 hR3 hl3 hx
  rw [Hl1.out] at HR3
  have y := HS3.out.op.x2
  go_upto_if 32 with fail
  go_cut [] from 9 to 70 (fun wx => WoS w wx b w.heap.size (l3 ++ (if 0 < n1 then [32, 111, 110] else [])) (kn : Int) k a1 n1 c1 q bt a2 n2 c2 wd uK uQ uC uB)
  case first =>
    by_cases hc : 0 < n1
    · have q1 : (0 : Int) < (n1 : Int) := by omega
      have q2 : decide ((0 : Int) < (n1 : Int)) = true := by simp; omega
      have Hc := Lib.hid hc
      clear hc
      go_wp2_with fail
      refine (wstr b l3 ⟨#[32, 111, 110]⟩ _ HS3.out.bl (by simp [ByteArray.size]; omega)).mono ?_
      rintro e w2 ⟨rfl, h2, hW2⟩
      have H2 := Lib.hid (HS3.out.step hbw h2 hW2)
      clear h2 hW2 y HS3
      go_wp2_with fail
      go_meet
      exact H2.out.cast (by rw [if_pos Hc.out])
    · have q1 : ¬ (0 : Int) < (n1 : Int) := by omega
      have q2 : decide ((0 : Int) < (n1 : Int)) = false := by simp; omega
      have Hc := Lib.hid hc
      clear hc
      go_wp2_with fail
      go_meet
      exact HS3.out.cast (by rw [if_neg Hc.out]; simp)
  case rest =>
  clear y
  obtain ⟨l4, hl4⟩ : ∃ x, l3 ++ (if 0 < n1 then [32, 111, 110] else []) = x := ⟨_, rfl⟩
  rw [hl4] at hcut
  have hx : (if 0 < n1 then [32, 111, 110] else ([] : List UInt8)).length ≤ 3 := by split <;> simp
  have hn4 : l4.length ≤ l3.length + 3 := by rw [← hl4, List.length_append]; omega
  have HS4 := Lib.hid hcut
  have hR4 := HR3.out
  rw [hl4] at hR4
  have HR4 := Lib.hid hR4
  clear hcut HS3 HR3 hR4 hl4 hx
  have y := HS4.out.op.x2
  go_wp2_with fail
  go_loopg [38] n1 (fun kk sx wx => ∃ i : Nat, sx = .int .i64 (i : Int) ∧ i ≤ n1 ∧ n1 - i = kk ∧ WoS w wx b w.heap.size (l4 ++ (ctl.take i).flatMap numL) (kn : Int) k a1 n1 c1 q bt a2 n2 c2 wd uK uQ uC uB)
  case atStart => exact ⟨0, rfl, by omega, by omega, HS4.out.cast (by simp)⟩
  case round =>
  obtain ⟨i, rfl, hi1, hk, hs⟩ := hrel
  clear HS4 y
  by_cases hin : i < n1
  · have h2 : (i : Int) < (n1 : Int) := by omega
    have h0 : (0 : Int) ≤ (i : Int) := by omega
    have hE2 : Ext W0 wr := hs.wr.ext HE.out hW0
    obtain ⟨b', o', rfl, hbl, hcell⟩ := (HL.out.i1.ext hE2).at (by omega)
    have hci := hcell i (by omega)
    have hil : i < ctl.length := by rw [Hl1.out]; omega
    have hfs := flat_snoc numL ctl i hil
    have hm := Hctl.out _ (getD_mem' hil)
    obtain ⟨x, hx⟩ : ∃ x, ctl.getD i 0 = x := ⟨_, rfl⟩
    rw [hx] at hci hfs hm
    have hlf := flat_len numL 3 (ctl.take i) (fun y hy => (fun h => numL_len h.2) (Hctl.out y (List.mem_of_mem_take hy)))
    have htk : (ctl.take i).length ≤ n1 := by rw [List.length_take, Hl1.out]; omega
    have Hfs := Lib.hid hfs; have Hs := Lib.hid hs
    have HC := Lib.hid (writeNumber_any b (l4 ++ (ctl.take i).flatMap numL) x wr hs.bl hm.1 hm.2 (by rw [List.length_append]; omega))
    clear hx hfs hs hcell hE2 hlf htk
    go_wp2_with fail
    refine HC.out.mono ?_
    rintro e w2 ⟨rfl, h2', hW2⟩
    have H2 := Lib.hid (Hs.out.step hbw h2' hW2)
    clear h2' hW2 HC
    go_wp2_with fail
    go_roundg (n1 - (i + 1))
    case measure => omega
    case rel => exact ⟨i + 1, by go_num, by omega, rfl, H2.out.cast (by rw [Hfs.out, List.append_assoc])⟩
  have hin2 : ¬ (i : Int) < (n1 : Int) := by omega
  rw [List.take_of_length_le (by rw [Hl1.out]; omega)] at hs
  clear hin hi1 hk
  have hcut := hs
  clear hs
  obtain ⟨l5, hl5⟩ : ∃ x, l4 ++ ctl.flatMap numL = x := ⟨_, rfl⟩
  rw [hl5] at hcut
  have hx : (ctl.flatMap numL).length ≤ 3 * ctl.length := flat_len numL 3 ctl (fun y hy => (fun h => numL_len h.2) (Hctl.out y hy))
  have hn5 : l5.length ≤ l4.length + 3 * ctl.length := by rw [← hl5, List.length_append]; omega
  have HS5 := Lib.hid hcut
  have hR5 := HR4.out
  rw [hl5] at hR5
  have HR5 := Lib.hid hR5
  clear hcut HR4 hR5 hl5 hx
  have z := HS5.out.s4; have y := HS5.out.op.x4
  go_upto_if 47 with fail
  go_cut [] from 9 to 70 (fun wx => WoS w wx b w.heap.size (l5 ++ (if uB = true then [32, 116, 111] ++ numL bt else [])) (kn : Int) k a1 n1 c1 q bt a2 n2 c2 wd uK uQ uC uB)
  case first =>
    cases uB
    · go_wp2_with fail
      go_meet
      exact HS5.out.cast (by simp)
    · go_wp2_with fail
      refine (wstr b l5 ⟨#[32, 116, 111]⟩ _ HS5.out.bl (by simp [ByteArray.size]; omega)).mono ?_
      rintro e w2 ⟨rfl, h2, hW2⟩
      have H2 := Lib.hid (HS5.out.step hbw h2 hW2)
      have y2 := H2.out.op.x4
      clear h2 hW2 z y HS5
      go_wp2_with fail
      refine (writeNumber_any b (l5 ++ [32, 116, 111]) bt _ H2.out.bl fbt.1 fbt.2 (by simp; omega)).mono ?_
      rintro e w3 ⟨rfl, h3, hW3⟩
      have H3 := Lib.hid (H2.out.step hbw h3 hW3)
      clear h3 hW3 H2 y2
      go_wp2_with fail
      go_meet
      exact H3.out.cast (by simp)
  case rest =>
  clear z y
  obtain ⟨l6, hl6⟩ : ∃ x, l5 ++ (if uB = true then [32, 116, 111] ++ numL bt else []) = x := ⟨_, rfl⟩
  rw [hl6] at hcut
  have hx : (if uB = true then [32, 116, 111] ++ numL bt else []).length ≤ 6 := by split; have := numL_len fbt.2; simp; omega; simp
  have hn6 : l6.length ≤ l5.length + 6 := by rw [← hl6, List.length_append]; omega
  have HS6 := Lib.hid hcut
  have hR6 := HR5.out
  rw [hl6] at hR6
  have HR6 := Lib.hid hR6
  clear hcut HS5 HR5 hR6 hl6 hx
  rw [Hl2.out] at HR6
  have y := HS6.out.op.x5
  go_upto_if 57 with fail
  go_cut [] from 9 to 70 (fun wx => WoS w wx b w.heap.size (l6 ++ (if 0 < n2 then [32, 105, 102] else [])) (kn : Int) k a1 n1 c1 q bt a2 n2 c2 wd uK uQ uC uB)
  case first =>
    by_cases hc : 0 < n2
    · have q1 : (0 : Int) < (n2 : Int) := by omega
      have q2 : decide ((0 : Int) < (n2 : Int)) = true := by simp; omega
      have Hc := Lib.hid hc
      clear hc
      go_wp2_with fail
      refine (wstr b l6 ⟨#[32, 105, 102]⟩ _ HS6.out.bl (by simp [ByteArray.size]; omega)).mono ?_
      rintro e w2 ⟨rfl, h2, hW2⟩
      have H2 := Lib.hid (HS6.out.step hbw h2 hW2)
      clear h2 hW2 y HS6
      go_wp2_with fail
      go_meet
      exact H2.out.cast (by rw [if_pos Hc.out])
    · have q1 : ¬ (0 : Int) < (n2 : Int) := by omega
      have q2 : decide ((0 : Int) < (n2 : Int)) = false := by simp; omega
      have Hc := Lib.hid hc
      clear hc
      go_wp2_with fail
      go_meet
      exact HS6.out.cast (by rw [if_neg Hc.out]; simp)
  case rest =>
  clear y
  obtain ⟨l7, hl7⟩ : ∃ x, l6 ++ (if 0 < n2 then [32, 105, 102] else []) = x := ⟨_, rfl⟩
  rw [hl7] at hcut
  have hx : (if 0 < n2 then [32, 105, 102] else ([] : List UInt8)).length ≤ 3 := by split <;> simp
  have hn7 : l7.length ≤ l6.length + 3 := by rw [← hl7, List.length_append]; omega
  have HS7 := Lib.hid hcut
  have hR7 := HR6.out
  rw [hl7] at hR7
  have HR7 := Lib.hid hR7
  clear hcut HS6 HR6 hR7 hl7 hx
  have y := HS7.out.op.x5
  go_wp2_with fail
  go_loopg [63] n2 (fun kk sx wx => ∃ i : Nat, sx = .int .i64 (i : Int) ∧ i ≤ n2 ∧ n2 - i = kk ∧ WoS w wx b w.heap.size (l7 ++ (cnd.take i).flatMap cndL) (kn : Int) k a1 n1 c1 q bt a2 n2 c2 wd uK uQ uC uB)
  case atStart => exact ⟨0, rfl, by omega, by omega, HS7.out.cast (by simp)⟩
  case round =>
  obtain ⟨i, rfl, hi1, hk, hs⟩ := hrel
  clear HS7 y
  by_cases hin : i < n2
  · have h2 : (i : Int) < (n2 : Int) := by omega
    have h0 : (0 : Int) ≤ (i : Int) := by omega
    have hE2 : Ext W0 wr := hs.wr.ext HE.out hW0
    obtain ⟨b', o', rfl, hbl, hcell⟩ := (HL.out.i2.ext hE2).at (by omega)
    have hci := hcell i (by omega)
    have hil : i < cnd.length := by rw [Hl2.out]; omega
    have hfs := flat_snoc cndL cnd i hil
    have hm := Hcnd.out _ (getD_mem' hil)
    obtain ⟨x, hx⟩ : ∃ x, cnd.getD i 0 = x := ⟨_, rfl⟩
    rw [hx] at hci hfs hm
    have hlf := flat_len cndL 4 (cnd.take i) (fun y hy => (fun h => cndL_len h.2) (Hcnd.out y (List.mem_of_mem_take hy)))
    have htk : (cnd.take i).length ≤ n2 := by rw [List.length_take, Hl2.out]; omega
    have Hfs := Lib.hid hfs; have Hs := Lib.hid hs
    have HC := Lib.hid (writeCondition_any b (l7 ++ (cnd.take i).flatMap cndL) x wr hs.bl hm.1 hm.2 (by rw [List.length_append]; omega))
    clear hx hfs hs hcell hE2 hlf htk
    go_wp2_with fail
    refine HC.out.mono ?_
    rintro e w2 ⟨rfl, h2', hW2⟩
    have H2 := Lib.hid (Hs.out.step hbw h2' hW2)
    clear h2' hW2 HC
    go_wp2_with fail
    go_roundg (n2 - (i + 1))
    case measure => omega
    case rel => exact ⟨i + 1, by go_num, by omega, rfl, H2.out.cast (by rw [Hfs.out, List.append_assoc])⟩
  have hin2 : ¬ (i : Int) < (n2 : Int) := by omega
  rw [List.take_of_length_le (by rw [Hl2.out]; omega)] at hs
  clear hin hi1 hk
  rw [HR7.out] at hs
  have Hs := Lib.hid hs
  clear hs
  go_wp2_with fail
  go_end0
  exact ⟨rfl, Hs.out.bl, Hs.out.wr⟩

end Go.Proofs.YtfjbhiihfibbaaaDoor

/-
  The program's Print.
-/
namespace Go.Proofs.YtfjbhiihfibbaaaDoor
open Go.RowKit

def prnAll (l : List Gop) : List UInt8 := l.flatMap (fun o => prnOp o ++ [10])
theorem prnAll_snoc (l : List Gop) (o : Gop) : prnAll (l ++ [o]) = prnAll l ++ prnOp o ++ [10] := by simp [prnAll]
theorem prnOp_len {o : Gop} (h : PrFit o) : (prnOp o).length ≤ 157 := by
  have h7 : (wordOf o.kind.toNat).data.toList.length ≤ 7 := by
    have := h.kd
    have : o.kind.toNat = 1 ∨ o.kind.toNat = 2 ∨ o.kind.toNat = 3 ∨ o.kind.toNat = 4 ∨ o.kind.toNat = 5 ∨ o.kind.toNat = 6 := by omega
    rcases this with e | e | e | e | e | e <;> rw [e] <;> decide
  have h1 : (if usesK o.kind then numL o.k else []).length ≤ 3 := by split; exact numL_len h.k.2; simp
  have h2 : (if usesQ o.kind then numL o.q else []).length ≤ 3 := by split; exact numL_len h.q.2; simp
  have h3 : (if 0 < o.ctl.length then [32, 111, 110] else ([] : List UInt8)).length ≤ 3 := by split <;> simp
  have h4 := flat_len numL 3 o.ctl (fun x hx => numL_len (h.ctl x hx).2)
  have h5 : (if usesB o.kind then [32, 116, 111] ++ numL o.bit else []).length ≤ 6 := by split; have := numL_len h.bit.2; simp; omega; simp
  have h6 : (if 0 < o.cnd.length then [32, 105, 102] else ([] : List UInt8)).length ≤ 3 := by split <;> simp
  have h8 := flat_len cndL 4 o.cnd (fun x hx => cndL_len (h.cnd x hx).2)
  have := h.few; have := h.cfew
  unfold prnOp
  simp only [List.length_append]
  omega
theorem prnAll_len : ∀ (l : List Gop), (∀ o ∈ l, PrFit o) → (prnAll l).length ≤ 158 * l.length := by
  intro l
  induction l with
  | nil => intro _; simp [prnAll]
  | cons a r ih =>
    intro h
    have h1 := prnOp_len (h a (by simp))
    have h2 := ih (fun x hx => h x (by simp [hx]))
    unfold prnAll at h2 ⊢
    rw [List.flatMap_cons, List.length_append, List.length_append, List.length_cons]
    simp only [List.length_cons, List.length_nil] at *
    omega
theorem prFit_of_code {o : Gop} {n b : Int} (hn : n ≤ 12) (hb0 : 0 ≤ b) (hb : b ≤ 12) (h : opCode o n b = 0) : PrFit o := by
  obtain ⟨f1, f2, f3, f4⟩ := fit_of_code hn hb0 hb h
  have hk : 0 ≤ o.k ∧ o.k < 100 := by
    unfold opCode at h
    split at h
    · omega
    split at h
    · omega
    rename_i hk
    unfold fitsB at hk
    split at hk
    · have : below o.k 16 = true := by simpa using hk
      have := below_iff.1 this; omega
    · have : o.k = 0 := by simpa using hk
      omega
  have hq : 0 ≤ o.q := by
    unfold opCode at h
    split at h
    · omega
    split at h
    · omega
    split at h
    · omega
    rename_i hk
    unfold fitsB at hk
    split at hk
    · have : below o.q n = true := by simpa using hk
      have := below_iff.1 this; omega
    · have : o.q = 0 := by simpa using hk
      omega
  have := f1.bit
  exact ⟨f1.kd, hk, ⟨hq, by have := f2.2.1; omega⟩, ⟨this.1, by omega⟩, fun c hc => ⟨(f4 c hc).1, by have := (f4 c hc).2; omega⟩, f3, fun t ht => ⟨f2.2.2.2 t ht, f1.cnd t ht⟩, f1.few⟩

/-- What Print answers. -/
def prnV (c : Gci) : ByteArray := if (chk c).1 = 0 then ⟨(prn c).toArray⟩ else ⟨#[]⟩

set_option maxHeartbeats 4000000 in
set_option maxRecDepth 100000 in
theorem Print_any (c : Gci) (ao : Option Addr) (n cp : Nat) (w : World) (h : OpsAt w ao n c.ops) (hn : n ≤ cp) (hcp : cp ≤ 9223372036854775807) (hS : Shp w) :
    Calls Tryd.prog 27 #[.agg #[.int .i64 c.qubits, .int .i64 c.bits, .slice ao n cp]] w fun e w' => e = .returned (.tuple #[.string (prnV c), .agg #[.int .i64 (chk c).1, .int .i64 (chk c).2]]) ∧ Ext w w' := by
  unfold prnV
  obtain ⟨qb, bi, ops⟩ := c
  obtain ⟨f, hf⟩ : ∃ f, chk ⟨qb, bi, ops⟩ = f := ⟨_, rfl⟩
  obtain ⟨f0, f1⟩ := f
  have hz0 : f0 = 0 → f1 = 0 ∧ n ≤ 4096 ∧ (0 ≤ qb ∧ qb < 100) ∧ (0 ≤ bi ∧ bi < 100) ∧ ∀ g ∈ ops, PrFit g := by
    intro h0
    obtain ⟨e1, e0, e3, e4, e5, e6, e2⟩ := chk_zero (c := ⟨qb, bi, ops⟩) (by rw [hf]; exact h0)
    rw [hf] at e1
    have hl := h.1
    simp only at e6 hl e0 e3 e4 e5
    exact ⟨congrArg Prod.snd e1, by omega, by omega, by omega, fun g hg => prFit_of_code e3 e4 e5 (e2 g hg)⟩
  have Hz0 := Lib.hid hz0
  rw [hf]
  have Hf := Lib.hid hf
  obtain ⟨H, hH⟩ : ∃ H, w.heap.size = H := ⟨_, rfl⟩
  obtain ⟨A1, hA1⟩ : ∃ A1, w.alloc (.cells #[.int .i64 qb, .int .i64 bi, .slice ao n cp] 24) = A1 := ⟨_, rfl⟩
  obtain ⟨A3, hA3⟩ : ∃ A3, A1.alloc (.cells #[.int .i64 0, .int .i64 0] 26) = A3 := ⟨_, rfl⟩
  have s1 : A1.heap.size = H + 1 := by rw [← hA1, ← hH]; simp
  have x1 : Ext w A1 := by rw [← hA1]; exact ext_al _ _
  have x3 : Ext A1 A3 := by rw [← hA3]; exact ext_al _ _
  have bC : CiB A3 H qb bi ao n cp := by
    have : CiB A1 H qb bi ao n cp := by rw [← hA1, ← hH]; exact ⟨heap_alloc_new w _⟩
    exact this.ext x3
  have bF : FtB A3 (H + 1) 0 0 := by rw [← hA3, ← s1]; exact ⟨heap_alloc_new A1 _⟩
  have E0 : Ext w A3 := x1.trans x3
  have hA : ( w.alloc (.cells #[.int .i64 qb, .int .i64 bi, .slice ao n cp] 24)).alloc (.cells #[.int .i64 0, .int .i64 0] 26) = A3 := by rw [hA1, hA3]
  have Hl := Lib.hid h.1
  subst hH
  simp only at Hl ⊢
  obtain ⟨V, hV⟩ : ∃ V, (if f0 = 0 then (⟨(prn ⟨qb, bi, ops⟩).toArray⟩ : ByteArray) else ⟨#[]⟩) = V := ⟨_, rfl⟩
  rw [hV]
  have HV := Lib.hid hV
  clear hV
  have HE0 := Lib.hid E0; have HO := Lib.hid (h.ext E0); have HC := Lib.hid bC; have HFt := Lib.hid bF; have HS := Lib.hid (hS.ext E0)
  have m0 := bC.x0; have m1 := bC.x1; have m2 := bC.x2
  rw [← hA] at m0 m1 m2
  have HA := Lib.hid hA
  clear h E0 bC bF hf hz0 hS x1 x3 s1 hA1 hA3 hA
  go_enter Tryd.func27, Tryd.ntmps27
  go_wp2_with fail
  rw [HA.out]
  have HK := Lib.hid (Check_any ⟨qb, bi, ops⟩ ao n cp A3 HO.out hn hcp HS.out)
  rw [Hf.out] at HK
  refine HK.out.mono ?_
  rintro e w1 ⟨rfl, hx1⟩
  have Ef := ext_al w1 (.cells #[.int .i64 f0, .int .i64 f1] 26)
  have bf1 : FtB (w1.alloc (.cells #[.int .i64 f0, .int .i64 f1] 26)) w1.heap.size f0 f1 := ⟨heap_alloc_new w1 _⟩
  have q0 := bf1.x0; have q1 := bf1.x1
  have HX1 := Lib.hid (hx1.trans Ef)
  have bz := HFt.out.ext HX1.out; have x0' := bz.x0; have x1' := bz.x1; have g0' := bz.f 0; have g1' := bz.f 1
  have bc := HC.out.ext HX1.out
  have hsz1 := hx1.size
  have hA3 := HFt.out.lt
  have HbC := Lib.hid bc; have HbF := Lib.hid bz
  clear bz bc m0 m1 m2 hx1 Ef bf1 HK Hf
  by_cases h0 : f0 = 0
  · subst h0
    obtain ⟨rfl, hn4, hqb, hbi, hfit⟩ := Hz0.out rfl
    have HW : Hid (V = ⟨(prn ⟨qb, bi, ops⟩).toArray⟩) := by have := HV.out; rw [if_pos rfl] at this; exact this.symm
    clear HV Hz0 HC HFt HA x0' x1' g0' g1'
    go_wp2_with fail
    have hsW : (w1.alloc (.cells #[.int .i64 0, .int .i64 0] 26)).heap.size = w1.heap.size + 1 := by simp
    generalize w1.alloc (.cells #[.int .i64 0, .int .i64 0] 26) = W1 at *
    have hb0 := bld_new W1
    have hE0 := ext_al W1 (.cells #[.pointer none, .slice none 0 0] 78)
    have HB0 := Lib.hid (show BldT (W1.alloc (.cells #[.pointer none, .slice none 0 0] 78)) W1.heap.size [] from hb0); have HE1 := Lib.hid hE0
    have hsX := HX1.out.size
    clear hb0 hE0 q0 q1
    generalize W1.alloc (.cells #[.pointer none, .slice none 0 0] 78) = V0 at *
    rw [hsW] at HB0
    obtain ⟨b, hb'⟩ : ∃ b, w1.heap.size + 1 = b := ⟨_, rfl⟩
    rw [hb'] at HB0 hsW ⊢
    have hb := hsW
    clear hsW hb'
    refine (wstr b [] ⟨#[113, 117, 98, 105, 116, 115]⟩ V0 HB0.out (by simp [ByteArray.size])).mono ?_
    rintro e V1 ⟨rfl, h2, hW2⟩
    have hE2 := hW2.ext HE1.out (Nat.le_of_eq hb)
    have y0 := (HbC.out.ext hE2).x0; have y1 := (HbC.out.ext hE2).x1; have y2 := (HbC.out.ext hE2).x2
    obtain ⟨l1, hl1⟩ : ∃ x : List UInt8, [] ++ [113, 117, 98, 105, 116, 115] = x := ⟨_, rfl⟩
    have hn1 : l1.length ≤ 8 := by rw [← hl1]; simp
    have h2' : BldT V1 b l1 := by rw [← hl1]; exact h2
    have HB1 := Lib.hid h2'; have HE2 := Lib.hid hE2; have HL1 := Lib.hid hl1
    clear h2 h2' hW2 hE2 hl1 HB0 HE1
    go_wp2_with fail
    clear y0 y1 y2
    refine (writeNumber_any b l1 qb V1 HB1.out hqb.1 hqb.2 (by omega)).mono ?_
    rintro e V2 ⟨rfl, h2, hW2⟩
    have hE2 := hW2.ext HE2.out (Nat.le_of_eq hb)
    have y0 := (HbC.out.ext hE2).x0; have y1 := (HbC.out.ext hE2).x1; have y2 := (HbC.out.ext hE2).x2
    obtain ⟨l2, hl2⟩ : ∃ x : List UInt8, l1 ++ numL qb = x := ⟨_, rfl⟩
    have hn2 : l2.length ≤ 16 := by rw [← hl2, List.length_append]; have := numL_len hqb.2; simp; omega
    have h2' : BldT V2 b l2 := by rw [← hl2]; exact h2
    have HB2 := Lib.hid h2'; have HE3 := Lib.hid hE2; have HL2 := Lib.hid hl2
    clear h2 h2' hW2 hE2 hl2 HB1 HE2
    go_wp2_with fail
    clear y0 y1 y2
    refine (wstr b l2 ⟨#[32, 98, 105, 116, 115]⟩ V2 HB2.out (by simp [ByteArray.size]; omega)).mono ?_
    rintro e V3 ⟨rfl, h2, hW2⟩
    have hE2 := hW2.ext HE3.out (Nat.le_of_eq hb)
    have y0 := (HbC.out.ext hE2).x0; have y1 := (HbC.out.ext hE2).x1; have y2 := (HbC.out.ext hE2).x2
    obtain ⟨l3, hl3⟩ : ∃ x : List UInt8, l2 ++ [32, 98, 105, 116, 115] = x := ⟨_, rfl⟩
    have hn3 : l3.length ≤ 24 := by rw [← hl3, List.length_append]; simp; omega
    have h2' : BldT V3 b l3 := by rw [← hl3]; exact h2
    have HB3 := Lib.hid h2'; have HE4 := Lib.hid hE2; have HL3 := Lib.hid hl3
    clear h2 h2' hW2 hE2 hl3 HB2 HE3
    go_wp2_with fail
    clear y0 y1 y2
    refine (writeNumber_any b l3 bi V3 HB3.out hbi.1 hbi.2 (by omega)).mono ?_
    rintro e V4 ⟨rfl, h2, hW2⟩
    have hE2 := hW2.ext HE4.out (Nat.le_of_eq hb)
    have y0 := (HbC.out.ext hE2).x0; have y1 := (HbC.out.ext hE2).x1; have y2 := (HbC.out.ext hE2).x2
    obtain ⟨l4, hl4⟩ : ∃ x : List UInt8, l3 ++ numL bi = x := ⟨_, rfl⟩
    have hn4 : l4.length ≤ 32 := by rw [← hl4, List.length_append]; have := numL_len hbi.2; simp; omega
    have h2' : BldT V4 b l4 := by rw [← hl4]; exact h2
    have HB4 := Lib.hid h2'; have HE5 := Lib.hid hE2; have HL4 := Lib.hid hl4
    clear h2 h2' hW2 hE2 hl4 HB3 HE4
    go_wp2_with fail
    clear y0 y1 y2
    refine (wstr b l4 ⟨#[10]⟩ V4 HB4.out (by simp [ByteArray.size]; omega)).mono ?_
    rintro e V5 ⟨rfl, h2, hW2⟩
    have hE2 := hW2.ext HE5.out (Nat.le_of_eq hb)
    have y0 := (HbC.out.ext hE2).x0; have y1 := (HbC.out.ext hE2).x1; have y2 := (HbC.out.ext hE2).x2
    obtain ⟨l5, hl5⟩ : ∃ x : List UInt8, l4 ++ [10] = x := ⟨_, rfl⟩
    have hn5 : l5.length ≤ 40 := by rw [← hl5, List.length_append]; simp; omega
    have h2' : BldT V5 b l5 := by rw [← hl5]; exact h2
    have HB5 := Lib.hid h2'; have HE6 := Lib.hid hE2; have HL5 := Lib.hid hl5
    clear h2 h2' hW2 hE2 hl5 HB4 HE5
    go_wp2_with fail
    clear y0 y1 y2
    have HP : Hid (prn ⟨qb, bi, ops⟩ = l5 ++ prnAll ops) := by
      show prn ⟨qb, bi, ops⟩ = l5 ++ prnAll ops
      rw [← HL5.out, ← HL4.out, ← HL3.out, ← HL2.out, ← HL1.out]
      rfl
    clear HL1 HL2 HL3 HL4 HL5
    have hlenA := prnAll_len ops hfit
    rw [Hl.out] at hlenA
    have Hfit := Lib.hid hfit
    clear hfit
    go_loopg [26] n (fun kk sx wx => ∃ i : Nat, sx = .int .i64 (i : Int) ∧ i ≤ n ∧ n - i = kk ∧ Ext W1 wx ∧ BldT wx b (l5 ++ prnAll (ops.take i)))
    case atStart => exact ⟨0, rfl, by omega, by omega, HE6.out, by simpa [prnAll] using HB5.out⟩
    case round =>
      clear HE6 HB5
      obtain ⟨i, rfl, hi1, hk, hE, hB⟩ := hrel
      by_cases hin : i = n
      · have h2 : ¬ (i : Int) < (n : Int) := by omega
        rw [List.take_of_length_le (by rw [Hl.out]; omega), ← HP.out] at hB
        have hbl := hB.lt
        have HC := Lib.hid (Tryd.Builder_String_any_k b b _ wr hB (by omega))
        have HEw := Lib.hid hE
        clear hE hB
        go_wp2_with fail
        refine HC.out.mono ?_
        rintro e w5 ⟨rfl, h5, hb5, ho5⟩
        have hE5 : Ext W1 w5 := Wrt.ext ⟨hb5, ho5⟩ HEw.out (Nat.le_of_eq hb)
        have bz := HbF.out.ext hE5; have x0' := bz.x0; have x1' := bz.x1; have g0' := bz.f 0; have g1' := bz.f 1
        have HE5 := Lib.hid ((HE0.out.trans HX1.out).trans hE5)
        clear h5 hb5 ho5 hE5 bz HC HEw
        go_wp2_with fail
        refine bodyPost_ret (v := .tuple #[.string ⟨(prn ⟨qb, bi, ops⟩).toArray⟩, .agg #[.int .i64 0, .int .i64 0]]) (by simp [results, Tryd.results27, go_sem, x0', x1']) rfl ⟨by rw [HW.out], ?_⟩
        exact cput (cput HE5.out (by omega) _) (by omega) _
      · have h2 : (i : Int) < (n : Int) := by omega
        have h0 : (0 : Int) ≤ (i : Int) := by omega
        obtain ⟨b', o', rfl⟩ := HO.out.some_of (by omega)
        obtain ⟨g, hg⟩ : ∃ g, ops[i]? = some g := ⟨_, List.getElem?_eq_getElem (by rw [Hl.out]; omega)⟩
        obtain ⟨a1, n1, c1, a2, n2, c2, e0, e1, e2, e3, e4, e5, hL⟩ := ((HO.out.ext HX1.out).ext hE).at i g hg
        have hpf := Hfit.out g (List.mem_of_getElem? hg)
        have hpl := prnOp_len hpf
        have hst : ops.take (i + 1) = ops.take i ++ [g] := by rw [List.take_add_one, hg]; rfl
        have Hst : Hid (l5 ++ prnAll (ops.take (i + 1)) = l5 ++ prnAll (ops.take i) ++ prnOp g ++ [10]) := by
          show _ = _
          rw [hst, prnAll_snoc]; simp
        have hla := prnAll_len (ops.take i) (fun o ho => Hfit.out o (List.mem_of_mem_take ho))
        have hlt : (ops.take i).length ≤ n := by rw [List.length_take, Hl.out]; omega
        obtain ⟨a1', n1', c1', a2', n2', c2', _, _, d2, _, _, d5, hL'⟩ := (HO.out.ext HX1.out).at i g hg
        have Ea := ext_al wr (.cells #[.int .i64 g.kind, .int .i64 g.k, .slice a1 n1 c1, .int .i64 g.q, .int .i64 g.bit, .slice a2 n2 c2] 58)
        have bO := opbx_new wr g.kind g.k a1 n1 c1 g.q g.bit a2 n2 c2
        have k2 := (cell_ext d2 hE).symm.trans e2
        have k5 := (cell_ext d5 hE).symm.trans e5
        simp only [Option.some.injEq, Value.slice.injEq] at k2 k5
        obtain ⟨rfl, rfl, rfl⟩ := k2
        obtain ⟨rfl, rfl, rfl⟩ := k5
        obtain ⟨lx, hlx⟩ : ∃ x, l5 ++ prnAll (ops.take i) = x := ⟨_, rfl⟩
        have hlxn : lx.length ≤ 40 + 158 * n := by
          rw [← hlx, List.length_append]
          have : 158 * (ops.take i).length ≤ 158 * n := Nat.mul_le_mul_left _ hlt
          omega
        rw [hlx] at hB Hst
        have HC := Lib.hid (writeOp_any g a1' n1' c1' a2' n2' c2' b lx W1 (wr.alloc (.cells #[.int .i64 g.kind, .int .i64 g.k, .slice a1' n1' c1', .int .i64 g.q, .int .i64 g.bit, .slice a2' n2' c2'] 58)) (hE.trans Ea) (Nat.le_of_eq hb) hL' (HS.out.ext HX1.out) hpf (hB.alloc _) (by omega))
        have HEa := Lib.hid (hE.trans Ea)
        obtain ⟨kd, kk', ctl, qq, bb, cnd⟩ := g
        simp only at e0 e1 e2 e3 e4 e5 bO HC HEa
        have p0 := bO.x0; have p1 := bO.x1; have p2 := bO.x2; have p3 := bO.x3; have p4 := bO.x4; have p5 := bO.x5
        obtain ⟨ly, hly⟩ : ∃ x, lx ++ prnOp ⟨kd, kk', ctl, qq, bb, cnd⟩ = x := ⟨_, rfl⟩
        have hlyn : ly.length ≤ 40 + 158 * n + 157 := by rw [← hly, List.length_append]; omega
        rw [hly] at HC Hst
        clear hg hL hL' hpf hpl hst hla hlt d2 d5 Ea bO hlx hly hE hB
        go_wp2_with fail
        generalize wr.alloc (.cells #[.int .i64 kd, .int .i64 kk', .slice a1' n1' c1', .int .i64 qq, .int .i64 bb, .slice a2' n2' c2'] 58) = w3 at *
        clear e0 e1 e2 e3 e4 e5 p0 p1 p2 p3 p4 p5
        refine HC.out.mono ?_
        rintro e w4 ⟨rfl, h4, hW4⟩
        have H4 := Lib.hid h4; have HE4 := Lib.hid (hW4.ext HEa.out (Nat.le_of_eq hb))
        clear h4 hW4 HC HEa
        go_wp2_with fail
        refine (wstr b ly ⟨#[10]⟩ w4 H4.out (by simp [ByteArray.size]; omega)).mono ?_
        rintro e w5 ⟨rfl, h5, hW5⟩
        have H5 := Lib.hid h5; have HE5 := Lib.hid (hW5.ext HE4.out (Nat.le_of_eq hb))
        clear h5 hW5
        go_wp2_with fail
        go_roundg (n - (i + 1))
        case measure => omega
        case rel => exact ⟨i + 1, by go_num, by omega, rfl, HE5.out, by rw [Hst.out]; exact H5.out⟩
  · have e1 := nt h0
    have HW : Hid (V = ⟨#[]⟩) := by have := HV.out; rw [if_neg h0] at this; exact this.symm
    clear h0
    go_wp2_with fail
    go_region
    go_wp2_with fail
    refine bodyPost_ret (v := .tuple #[.string ⟨#[]⟩, .agg #[.int .i64 f0, .int .i64 f1]]) (by simp [results, Tryd.results27, go_sem, x0', x1']) rfl ⟨by rw [HW.out], ?_⟩
    exact Below.drew (cput (cput (HE0.out.trans HX1.out) (by omega) _) (by omega) _)

end Go.Proofs.YtfjbhiihfibbaaaDoor
