/-
  The reader of texts of circuits: where it stands; looking, taking, needing a word.
-/
import Derived.Test.YtpabafioofhklaaDoorMBx
import Derived.Test.YtpabafioofhklaaDoorMCq

namespace Go.Proofs.YtpabafioofhklaaDoor
open Go.RowKit

/-- A reader in a variable: its text, where it stands, its line. -/
structure Rd (W : World) (R : Nat) (T : List UInt8) (at_ : Nat) (ln : Nat) : Prop where
  row : W.heap[R]? = some (.cells #[.string ⟨T.toArray⟩, .int .i64 (at_ : Int), .int .i64 (ln : Int)] 68 (0, 0))
/-- All but the block R is as it was. -/
structure Mvd (R : Nat) (w w' : World) : Prop where
  os : w'.os = w.os
  tape : w'.tape = w.tape
  output : w'.output = w.output
  size : w.heap.size ≤ w'.heap.size
  block : ∀ k, k < w.heap.size → k ≠ R → w'.heap[k]? = w.heap[k]?
theorem Mvd.refl (R : Nat) (w : World) : Mvd R w w := ⟨rfl, rfl, rfl, Nat.le_refl _, fun _ _ _ => rfl⟩
theorem Mvd.trans {R : Nat} {a b c : World} (h : Mvd R a b) (k : Mvd R b c) : Mvd R a c :=
  ⟨k.os.trans h.os, k.tape.trans h.tape, k.output.trans h.output, Nat.le_trans h.size k.size, fun i hi hne => (k.block i (Nat.lt_of_lt_of_le hi h.size) hne).trans (h.block i hi hne)⟩
theorem Mvd.of_ext {R : Nat} {w w' : World} (h : Ext w w') : Mvd R w w' := ⟨h.os, h.tape, h.output, h.size, fun i hi _ => h.block i hi⟩
theorem Mvd.put {R : Nat} {a w : World} (h : Mvd R a w) (o : Nat) (u : Value) : Mvd R a (w.setCell ⟨R, o, none⟩ u) := by
  have hb := Below.setCell (B := R) (a := w) (w := w) (Below.refl R w) (p := ⟨R, o, none⟩) (Nat.le_refl R) u
  exact h.trans ⟨hb.os, hb.tape, hb.output, hb.size, fun i _ hne => Below.heap_setCell w ⟨R, o, none⟩ u i hne⟩
/-- What lay there ahead of the reader stands. -/
theorem Mvd.ext {R : Nat} {w0 w w' : World} (h : Mvd R w w') (k : Ext w0 w) (hR : w0.heap.size ≤ R) : Ext w0 w' :=
  Below.trans k ⟨h.os, h.tape, h.output, h.size, fun i hi => h.block i (Nat.lt_of_lt_of_le hi k.size) (by omega)⟩
section
variable {W W' : World} {R at_ ln : Nat} {T : List UInt8}
theorem Rd.lt (h : Rd W R T at_ ln) : R < W.heap.size := (Array.getElem?_eq_some_iff.1 h.row).1
theorem Rd.ext (h : Rd W R T at_ ln) (k : Ext W W') : Rd W' R T at_ ln := ⟨(k.block _ h.lt).trans h.row⟩
theorem Rd.x0 (h : Rd W R T at_ ln) : W.cell? ⟨R, 0, none⟩ = some (.string ⟨T.toArray⟩) := by rw [cell_of_row W R 0 _ _ (0, 0) h.row]; rfl
theorem Rd.x1 (h : Rd W R T at_ ln) : W.cell? ⟨R, 1, none⟩ = some (.int .i64 (at_ : Int)) := by rw [cell_of_row W R 1 _ _ (0, 0) h.row]; rfl
theorem Rd.x2 (h : Rd W R T at_ ln) : W.cell? ⟨R, 2, none⟩ = some (.int .i64 (ln : Int)) := by rw [cell_of_row W R 2 _ _ (0, 0) h.row]; rfl
theorem Rd.f (h : Rd W R T at_ ln) (o : Nat) : W.frozen? ⟨R, o, none⟩ = false := frozen_of_row W R o _ _ h.row
theorem Rd.put1 (h : Rd W R T at_ ln) (v : Nat) : Rd (W.setCell ⟨R, 1, none⟩ (.int .i64 (v : Int))) R T v ln := by
  refine ⟨?_⟩
  rw [setCell_eq_setRow W R 1 _ _ _ _ h.row, setRow_heap W R _ _ _ _ h.row]
  rfl
theorem Rd.put2 (h : Rd W R T at_ ln) (v : Nat) : Rd (W.setCell ⟨R, 2, none⟩ (.int .i64 (v : Int))) R T at_ v := by
  refine ⟨?_⟩
  rw [setCell_eq_setRow W R 2 _ _ _ _ h.row, setRow_heap W R _ _ _ _ h.row]
  rfl
end

theorem pre_yes (p r : List UInt8) : Lib.hasPrefix (p ++ r) p = true := by simp [Lib.hasPrefix]

theorem sub_drop (T : List UInt8) (k : Nat) : ((⟨T.toArray⟩ : ByteArray).extract k T.length).data.toList = T.drop k := by
  rw [ByteArray.data_extract]
  simp [List.take_of_length_le]

set_option maxHeartbeats 1000000 in
set_option maxRecDepth 100000 in
/-- Does the word come next? -/
theorem sees_any (R : Nat) (T : List UInt8) (at_ ln : Nat) (p : List UInt8) (w : World) (h : Rd w R T at_ ln) (hat : at_ ≤ T.length) :
    Calls Tryd.prog 74 #[.pointer (some ⟨R, 0, none⟩), .string ⟨p.toArray⟩] w fun e w' => e = .returned (.bool (Lib.hasPrefix (T.drop at_) p)) ∧ Ext w w' := by
  have x0 := h.x0; have x1 := h.x1
  have lR := h.lt
  have b0 : (0 : Int) ≤ (at_ : Int) := by omega
  have b1 : (at_ : Int) ≤ (T.length : Int) := by omega
  have hd : Ext w w.drew := cdrew (Ext.refl w)
  have hw : Ext w w := Ext.refl w
  have HP := Lib.hid (fun wx => Tryd.strings_HasPrefix ((⟨T.toArray⟩ : ByteArray).extract at_ T.length) ⟨p.toArray⟩ wx)
  rw [sub_drop] at HP
  go_enter Tryd.func74, Tryd.ntmps74
  go_wp2_with fail
  go_region_held3 (fun w' => w'.cell? ⟨R, 0, none⟩ = some (.string ⟨T.toArray⟩) ∧ w'.cell? ⟨R, 1, none⟩ = some (.int .i64 (at_ : Int)))
    (exact ⟨ckeep (W := w) (by with_reducible assumption) lR x0, ckeep (W := w) (by with_reducible assumption) lR x1⟩)
    (first | (go_at_call 81; refine (HP.out _).mono ?_; rintro e w1 ⟨rfl, rfl⟩))
  go_wp2_with fail
  go_ret
  exact ⟨rfl, hd⟩

theorem pre_len {T p : List UInt8} {k : Nat} (h : Lib.hasPrefix (T.drop k) p = true) : p.length ≤ T.length - k := by
  have := List.IsPrefix.length_le (List.isPrefixOf_iff_prefix.1 h)
  rwa [List.length_drop] at this

set_option maxHeartbeats 1000000 in
/-- The word comes next, and is taken. -/
theorem take_yes (R : Nat) (T : List UInt8) (at_ ln : Nat) (p : List UInt8) (w : World) (h : Rd w R T at_ ln) (hat : at_ ≤ T.length) (hT : T.length ≤ 1000000) (hp : Lib.hasPrefix (T.drop at_) p = true) :
    Calls Tryd.prog 66 #[.pointer (some ⟨R, 0, none⟩), .string ⟨p.toArray⟩] w fun e w' => e = .returned (.bool true) ∧ Rd w' R T (at_ + p.length) ln ∧ Mvd R w w' := by
  have hl := pre_len hp
  have HS := Lib.hid (sees_any R T at_ ln p w h hat)
  rw [hp] at HS
  have H := Lib.hid h
  clear h hp
  go_enter Tryd.func66, Tryd.ntmps66
  go_wp2_with fail
  refine HS.out.mono ?_
  rintro e w1 ⟨rfl, hx⟩
  have h1 := H.out.ext hx
  have x1 := h1.x1; have f1 := h1.f 1
  have hw : IntKind.i64.wrap ((at_ : Int) + (p.length : Int)) = ((at_ + p.length : Nat) : Int) := by rw [IntKind.wrap_i64]; omega
  have HR := Lib.hid (h1.put1 (at_ + p.length)); have HM := Lib.hid ((Mvd.of_ext (R := R) hx).put 1 (.int .i64 ((at_ + p.length : Nat) : Int)))
  clear hx h1 HS H
  obtain ⟨k, hk⟩ : ∃ k : Int, ((at_ + p.length : Nat) : Int) = k := ⟨_, rfl⟩
  rw [hk] at hw HR HM
  clear hk hl
  go_wp2_with fail
  go_ret
  exact ⟨rfl, HR.out, HM.out⟩

set_option maxHeartbeats 1000000 in
/-- The word does not come next. -/
theorem take_no (R : Nat) (T : List UInt8) (at_ ln : Nat) (p : List UInt8) (w : World) (h : Rd w R T at_ ln) (hat : at_ ≤ T.length) (hp : Lib.hasPrefix (T.drop at_) p = false) :
    Calls Tryd.prog 66 #[.pointer (some ⟨R, 0, none⟩), .string ⟨p.toArray⟩] w fun e w' => e = .returned (.bool false) ∧ Ext w w' := by
  have HS := Lib.hid (sees_any R T at_ ln p w h hat)
  rw [hp] at HS
  clear h hp
  go_enter Tryd.func66, Tryd.ntmps66
  go_wp2_with fail
  refine HS.out.mono ?_
  rintro e w1 ⟨rfl, hx⟩
  have HX := Lib.hid hx
  clear hx
  go_wp2_with fail
  go_ret
  exact ⟨rfl, HX.out⟩

set_option maxHeartbeats 1000000 in
theorem need_yes (R : Nat) (T : List UInt8) (at_ ln : Nat) (p : List UInt8) (w : World) (h : Rd w R T at_ ln) (hat : at_ ≤ T.length) (hT : T.length ≤ 1000000) (hp : Lib.hasPrefix (T.drop at_) p = true) :
    Calls Tryd.prog 55 #[.pointer (some ⟨R, 0, none⟩), .string ⟨p.toArray⟩] w fun e w' => e = .returned (.tuple #[]) ∧ Rd w' R T (at_ + p.length) ln ∧ Mvd R w w' := by
  have HS := Lib.hid (take_yes R T at_ ln p w h hat hT hp)
  clear h hp
  go_enter Tryd.func55, Tryd.ntmps55
  go_wp2_with fail
  refine HS.out.mono ?_
  rintro e w1 ⟨rfl, hr, hm⟩
  have HR := Lib.hid hr; have HM := Lib.hid hm
  clear hr hm
  go_wp2_with fail
  go_end0
  exact ⟨rfl, HR.out, HM.out⟩

set_option maxHeartbeats 1000000 in
theorem endLine_yes (R : Nat) (T : List UInt8) (at_ ln : Nat) (w : World) (h : Rd w R T at_ ln) (hat : at_ ≤ T.length) (hT : T.length ≤ 1000000) (hp : Lib.hasPrefix (T.drop at_) [10] = true) (hln : ln ≤ 1000000) :
    Calls Tryd.prog 57 #[.pointer (some ⟨R, 0, none⟩)] w fun e w' => e = .returned (.tuple #[]) ∧ Rd w' R T (at_ + 1) (ln + 1) ∧ Mvd R w w' := by
  have HS := Lib.hid (need_yes R T at_ ln [10] w h hat hT hp)
  clear h hp
  go_enter Tryd.func57, Tryd.ntmps57
  go_wp2_with fail
  refine HS.out.mono ?_
  rintro e w1 ⟨rfl, hr, hm⟩
  have x2 := hr.x2; have f2 := hr.f 2
  have hw : IntKind.i64.wrap ((ln : Int) + 1) = ((ln + 1 : Nat) : Int) := by rw [IntKind.wrap_i64]; omega
  have HR := Lib.hid (hr.put2 (ln + 1)); have HM := Lib.hid (hm.put 2 (.int .i64 ((ln + 1 : Nat) : Int)))
  clear hr hm
  obtain ⟨k, hk⟩ : ∃ k : Int, ((ln + 1 : Nat) : Int) = k := ⟨_, rfl⟩
  rw [hk] at hw HR HM
  clear hk
  go_wp2_with fail
  go_end0
  exact ⟨rfl, HR.out, HM.out⟩

end Go.Proofs.YtpabafioofhklaaDoor
