/-
  The reader of texts of circuits: where it stands; looking, taking, needing a word.
-/
import Derived.Test.YtfjbhiihfibbaaaDoorMBw
import Derived.Test.YtfjbhiihfibbaaaDoorMCo
import Derived.BigQuiet
import Derived.Test.YtfjbhiihfibbaaaDoorMCi

namespace Go.Proofs.YtfjbhiihfibbaaaDoor
open Go.RowKit

/-- A reader in a variable: its text, where it stands, its line. -/
structure Rd (W : World) (R : Nat) (T : List UInt8) (at_ : Nat) (ln : Nat) : Prop where
  row : W.heap[R]? = some (.cells #[.string ⟨T.toArray⟩, .int .i64 (at_ : Int), .int .i64 (ln : Int)] 50 (0, 0))
/-- All but the block R is as it was. -/
structure Mvd (R : Nat) (w w' : World) : Prop where
  os : w'.os = w.os
  tape : w'.tape = w.tape
  output : w'.output = w.output
  size : w.heap.size ≤ w'.heap.size
  block : ∀ k, k < w.heap.size → k ≠ R → w'.heap[k]? = w.heap[k]?
theorem Mvd.refl (R : Nat) (w : World) : Mvd R w w := ⟨rfl, rfl, rfl, Nat.le_refl _, fun _ _ _ => rfl⟩
theorem Mvd.trans {R : Nat} {a b c : World} (h : Mvd R a b) (k : Mvd R b c) : Mvd R a c :=
  ⟨k.os.trans h.os, k.tape.trans h.tape, k.output.trans h.output, Nat.le_trans h.size k.size, fun i hi hne => (k.block i (Nat.lt_of_lt_of_le hi h.size) hne).trans (h.block i hi hne)⟩
theorem Mvd.of_ext {R : Nat} {w w' : World} (h : Ext w w') : Mvd R w w' := ⟨h.os, h.tape, h.output, h.size, fun i hi _ => h.block i hi⟩
theorem Mvd.put {R : Nat} {a w : World} (h : Mvd R a w) (o : Nat) (u : Value) : Mvd R a (w.setCell ⟨R, o, none⟩ u) := by
  have hb := Below.setCell (B := R) (a := w) (w := w) (Below.refl R w) (p := ⟨R, o, none⟩) (Nat.le_refl R) u
  exact h.trans ⟨hb.os, hb.tape, hb.output, hb.size, fun i _ hne => Below.heap_setCell w ⟨R, o, none⟩ u i hne⟩
/-- What lay there ahead of the reader stands. -/
theorem Mvd.ext {R : Nat} {w0 w w' : World} (h : Mvd R w w') (k : Ext w0 w) (hR : w0.heap.size ≤ R) : Ext w0 w' :=
  Below.trans k ⟨h.os, h.tape, h.output, h.size, fun i hi => h.block i (Nat.lt_of_lt_of_le hi k.size) (by omega)⟩
section
variable {W W' : World} {R at_ ln : Nat} {T : List UInt8}
theorem Rd.lt (h : Rd W R T at_ ln) : R < W.heap.size := (Array.getElem?_eq_some_iff.1 h.row).1
theorem Rd.ext (h : Rd W R T at_ ln) (k : Ext W W') : Rd W' R T at_ ln := ⟨(k.block _ h.lt).trans h.row⟩
theorem Rd.x0 (h : Rd W R T at_ ln) : W.cell? ⟨R, 0, none⟩ = some (.string ⟨T.toArray⟩) := by rw [cell_of_row W R 0 _ _ (0, 0) h.row]; rfl
theorem Rd.x1 (h : Rd W R T at_ ln) : W.cell? ⟨R, 1, none⟩ = some (.int .i64 (at_ : Int)) := by rw [cell_of_row W R 1 _ _ (0, 0) h.row]; rfl
theorem Rd.x2 (h : Rd W R T at_ ln) : W.cell? ⟨R, 2, none⟩ = some (.int .i64 (ln : Int)) := by rw [cell_of_row W R 2 _ _ (0, 0) h.row]; rfl
theorem Rd.f (h : Rd W R T at_ ln) (o : Nat) : W.frozen? ⟨R, o, none⟩ = false := frozen_of_row W R o _ _ h.row
theorem Rd.put1 (h : Rd W R T at_ ln) (v : Nat) : Rd (W.setCell ⟨R, 1, none⟩ (.int .i64 (v : Int))) R T v ln := by
  refine ⟨?_⟩
  rw [setCell_eq_setRow W R 1 _ _ _ _ h.row, setRow_heap W R _ _ _ _ h.row]
  rfl
theorem Rd.put2 (h : Rd W R T at_ ln) (v : Nat) : Rd (W.setCell ⟨R, 2, none⟩ (.int .i64 (v : Int))) R T at_ v := by
  refine ⟨?_⟩
  rw [setCell_eq_setRow W R 2 _ _ _ _ h.row, setRow_heap W R _ _ _ _ h.row]
  rfl
end

theorem pre_yes (p r : List UInt8) : Lib.hasPrefix (p ++ r) p = true := by simp [Lib.hasPrefix]

theorem sub_drop (T : List UInt8) (k : Nat) : ((⟨T.toArray⟩ : ByteArray).extract k T.length).data.toList = T.drop k := by
  rw [ByteArray.data_extract]
  simp [List.take_of_length_le]

set_option maxHeartbeats 1000000 in
set_option maxRecDepth 100000 in
/-- Does the word come next? -/
theorem sees_any (R : Nat) (T : List UInt8) (at_ ln : Nat) (p : List UInt8) (w : World) (h : Rd w R T at_ ln) (hat : at_ ≤ T.length) :
    Calls Tryd.prog 89 #[.pointer (some ⟨R, 0, none⟩), .string ⟨p.toArray⟩] w fun e w' => e = .returned (.bool (Lib.hasPrefix (T.drop at_) p)) ∧ Ext w w' := by
  have x0 := h.x0; have x1 := h.x1
  have lR := h.lt
  have b0 : (0 : Int) ≤ (at_ : Int) := by omega
  have b1 : (at_ : Int) ≤ (T.length : Int) := by omega
  have hd : Ext w w.drew := cdrew (Ext.refl w)
  have hw : Ext w w := Ext.refl w
  have HP := Lib.hid (fun wx => Tryd.strings_HasPrefix ((⟨T.toArray⟩ : ByteArray).extract at_ T.length) ⟨p.toArray⟩ wx)
  rw [sub_drop] at HP
  go_enter Tryd.func89, Tryd.ntmps89
  go_wp2_with fail
  go_region_held3 (fun w' => w'.cell? ⟨R, 0, none⟩ = some (.string ⟨T.toArray⟩) ∧ w'.cell? ⟨R, 1, none⟩ = some (.int .i64 (at_ : Int)))
    (exact ⟨ckeep (W := w) (by with_reducible assumption) lR x0, ckeep (W := w) (by with_reducible assumption) lR x1⟩)
    (first | (go_at_call 93; refine (HP.out _).mono ?_; rintro e w1 ⟨rfl, rfl⟩))
  go_wp2_with fail
  go_ret
  exact ⟨rfl, hd⟩

theorem pre_len {T p : List UInt8} {k : Nat} (h : Lib.hasPrefix (T.drop k) p = true) : p.length ≤ T.length - k := by
  have := List.IsPrefix.length_le (List.isPrefixOf_iff_prefix.1 h)
  rwa [List.length_drop] at this

set_option maxHeartbeats 1000000 in
/-- The word comes next, and is taken. -/
theorem take_yes (R : Nat) (T : List UInt8) (at_ ln : Nat) (p : List UInt8) (w : World) (h : Rd w R T at_ ln) (hat : at_ ≤ T.length) (hT : T.length ≤ 1000000) (hp : Lib.hasPrefix (T.drop at_) p = true) :
    Calls Tryd.prog 75 #[.pointer (some ⟨R, 0, none⟩), .string ⟨p.toArray⟩] w fun e w' => e = .returned (.bool true) ∧ Rd w' R T (at_ + p.length) ln ∧ Mvd R w w' := by
  have hl := pre_len hp
  have HS := Lib.hid (sees_any R T at_ ln p w h hat)
  rw [hp] at HS
  have H := Lib.hid h
  clear h hp
  go_enter Tryd.func75, Tryd.ntmps75
  go_wp2_with fail
  refine HS.out.mono ?_
  rintro e w1 ⟨rfl, hx⟩
  have h1 := H.out.ext hx
  have x1 := h1.x1; have f1 := h1.f 1
  have hw : IntKind.i64.wrap ((at_ : Int) + (p.length : Int)) = ((at_ + p.length : Nat) : Int) := by rw [IntKind.wrap_i64]; omega
  have HR := Lib.hid (h1.put1 (at_ + p.length)); have HM := Lib.hid ((Mvd.of_ext (R := R) hx).put 1 (.int .i64 ((at_ + p.length : Nat) : Int)))
  clear hx h1 HS H
  obtain ⟨k, hk⟩ : ∃ k : Int, ((at_ + p.length : Nat) : Int) = k := ⟨_, rfl⟩
  rw [hk] at hw HR HM
  clear hk hl
  go_wp2_with fail
  go_ret
  exact ⟨rfl, HR.out, HM.out⟩

set_option maxHeartbeats 1000000 in
/-- The word does not come next. -/
theorem take_no (R : Nat) (T : List UInt8) (at_ ln : Nat) (p : List UInt8) (w : World) (h : Rd w R T at_ ln) (hat : at_ ≤ T.length) (hp : Lib.hasPrefix (T.drop at_) p = false) :
    Calls Tryd.prog 75 #[.pointer (some ⟨R, 0, none⟩), .string ⟨p.toArray⟩] w fun e w' => e = .returned (.bool false) ∧ Ext w w' := by
  have HS := Lib.hid (sees_any R T at_ ln p w h hat)
  rw [hp] at HS
  clear h hp
  go_enter Tryd.func75, Tryd.ntmps75
  go_wp2_with fail
  refine HS.out.mono ?_
  rintro e w1 ⟨rfl, hx⟩
  have HX := Lib.hid hx
  clear hx
  go_wp2_with fail
  go_ret
  exact ⟨rfl, HX.out⟩

set_option maxHeartbeats 1000000 in
theorem need_yes (R : Nat) (T : List UInt8) (at_ ln : Nat) (p : List UInt8) (w : World) (h : Rd w R T at_ ln) (hat : at_ ≤ T.length) (hT : T.length ≤ 1000000) (hp : Lib.hasPrefix (T.drop at_) p = true) :
    Calls Tryd.prog 59 #[.pointer (some ⟨R, 0, none⟩), .string ⟨p.toArray⟩] w fun e w' => e = .returned (.tuple #[]) ∧ Rd w' R T (at_ + p.length) ln ∧ Mvd R w w' := by
  have HS := Lib.hid (take_yes R T at_ ln p w h hat hT hp)
  clear h hp
  go_enter Tryd.func59, Tryd.ntmps59
  go_wp2_with fail
  refine HS.out.mono ?_
  rintro e w1 ⟨rfl, hr, hm⟩
  have HR := Lib.hid hr; have HM := Lib.hid hm
  clear hr hm
  go_wp2_with fail
  go_end0
  exact ⟨rfl, HR.out, HM.out⟩

set_option maxHeartbeats 1000000 in
theorem endLine_yes (R : Nat) (T : List UInt8) (at_ ln : Nat) (w : World) (h : Rd w R T at_ ln) (hat : at_ ≤ T.length) (hT : T.length ≤ 1000000) (hp : Lib.hasPrefix (T.drop at_) [10] = true) (hln : ln ≤ 1000000) :
    Calls Tryd.prog 61 #[.pointer (some ⟨R, 0, none⟩)] w fun e w' => e = .returned (.tuple #[]) ∧ Rd w' R T (at_ + 1) (ln + 1) ∧ Mvd R w w' := by
  have HS := Lib.hid (need_yes R T at_ ln [10] w h hat hT hp)
  clear h hp
  go_enter Tryd.func61, Tryd.ntmps61
  go_wp2_with fail
  refine HS.out.mono ?_
  rintro e w1 ⟨rfl, hr, hm⟩
  have x2 := hr.x2; have f2 := hr.f 2
  have hw : IntKind.i64.wrap ((ln : Int) + 1) = ((ln + 1 : Nat) : Int) := by rw [IntKind.wrap_i64]; omega
  have HR := Lib.hid (hr.put2 (ln + 1)); have HM := Lib.hid (hm.put 2 (.int .i64 ((ln + 1 : Nat) : Int)))
  clear hr hm
  obtain ⟨k, hk⟩ : ∃ k : Int, ((ln + 1 : Nat) : Int) = k := ⟨_, rfl⟩
  rw [hk] at hw HR HM
  clear hk
  go_wp2_with fail
  go_end0
  exact ⟨rfl, HR.out, HM.out⟩

end Go.Proofs.YtfjbhiihfibbaaaDoor

/-
  The reader: digits and numbers.
-/
namespace Go.Proofs.YtfjbhiihfibbaaaDoor
open Go.RowKit

theorem byte_at {T : List UInt8} {k : Nat} {c : UInt8} (h : T[k]? = some c) (hs : k < (⟨T.toArray⟩ : ByteArray).size) : (⟨T.toArray⟩ : ByteArray)[k]'hs = c := by
  have h1 : k < T.length := (List.getElem?_eq_some_iff.1 h).1
  have h2 : T[k] = c := (List.getElem?_eq_some_iff.1 h).2
  rw [← h2]
  rfl

set_option maxHeartbeats 2000000 in
set_option maxRecDepth 100000 in
theorem digit_yes (R : Nat) (T : List UInt8) (at_ ln : Nat) (w : World) (h : Rd w R T at_ ln) (c : UInt8) (hc : T[at_]? = some c) (h0 : 48 ≤ c.toNat) (h9 : c.toNat ≤ 57) :
    Calls Tryd.prog 90 #[.pointer (some ⟨R, 0, none⟩)] w fun e w' => e = .returned (.bool true) ∧ Ext w w' := by
  have x0 := h.x0; have x1 := h.x1
  have hlt : at_ < T.length := (List.getElem?_eq_some_iff.1 hc).1
  have b0 : (0 : Int) ≤ (at_ : Int) := by omega
  have b1 : (at_ : Int) < (T.length : Int) := by omega
  have hsz : at_ < (⟨T.toArray⟩ : ByteArray).size := by simpa [ByteArray.size] using hlt
  have hg : (⟨T.toArray⟩ : ByteArray)[at_]'hsz = c := byte_at hc hsz
  have q1 : decide ((48 : Int) ≤ (((⟨T.toArray⟩ : ByteArray)[at_]'hsz).toNat : Int)) = true := by rw [hg]; exact dt (by omega)
  have q2 : decide ((((⟨T.toArray⟩ : ByteArray)[at_]'hsz).toNat : Int) ≤ 57) = true := by rw [hg]; exact dt (by omega)
  clear hg
  have hd : Ext w w.drew := cdrew (Ext.refl w)
  go_enter Tryd.func90, Tryd.ntmps90
  go_wp2_with fail
  go_quiet (fail)
  go_wp2_with fail
  go_ret
  exact ⟨rfl, ext_drewN w _⟩

set_option maxHeartbeats 2000000 in
set_option maxRecDepth 100000 in
theorem digit_no (R : Nat) (T : List UInt8) (at_ ln : Nat) (w : World) (h : Rd w R T at_ ln) (c : UInt8) (hc : T[at_]? = some c) (h0 : c.toNat < 48) :
    Calls Tryd.prog 90 #[.pointer (some ⟨R, 0, none⟩)] w fun e w' => e = .returned (.bool false) ∧ Ext w w' := by
  have x0 := h.x0; have x1 := h.x1
  have hlt : at_ < T.length := (List.getElem?_eq_some_iff.1 hc).1
  have b0 : (0 : Int) ≤ (at_ : Int) := by omega
  have b1 : (at_ : Int) < (T.length : Int) := by omega
  have hsz : at_ < (⟨T.toArray⟩ : ByteArray).size := by simpa [ByteArray.size] using hlt
  have hg : (⟨T.toArray⟩ : ByteArray)[at_]'hsz = c := byte_at hc hsz
  have q1 : decide ((48 : Int) ≤ (((⟨T.toArray⟩ : ByteArray)[at_]'hsz).toNat : Int)) = false := by rw [hg]; exact df (by omega)
  clear hg
  go_enter Tryd.func90, Tryd.ntmps90
  go_wp2_with fail
  go_quiet (fail)
  go_wp2_with fail
  go_ret
  exact ⟨rfl, ext_drewN w _⟩

/-- How many digits, each of them, and what the first of them make. -/
def dgN (i : Nat) : Nat := if i < 10 then 1 else 2
def dgV (i j : Nat) : Nat := if i < 10 then i else if j = 0 then i / 10 else i % 10
def dgS (i j : Nat) : Nat := if j = 0 then 0 else if i < 10 then i else if j = 1 then i / 10 else i
theorem dg_facts {i : Nat} (hi : i < 100) : (Lib.decDigits i).length = dgN i ∧ (∀ j, j < dgN i → (Lib.decDigits i)[j]? = some (UInt8.ofNat (48 + dgV i j)) ∧ dgV i j ≤ 9 ∧ dgS i (j + 1) = 10 * dgS i j + dgV i j ∧ dgS i j ≤ 9 ∧ (0 < j → 0 < dgS i j)) ∧ dgS i (dgN i) = i ∧ 1 ≤ dgN i ∧ dgN i ≤ 2 := by
  by_cases h : i < 10
  · have e1 : dgN i = 1 := by unfold dgN; rw [if_pos h]
    refine ⟨by rw [Lib.decDigits_one h, e1]; rfl, ?_, ?_, by omega, by omega⟩
    · intro j hj
      obtain rfl : j = 0 := by omega
      rw [Lib.decDigits_one h]
      refine ⟨by simp [dgV, h], by unfold dgV; rw [if_pos h]; omega, by simp [dgS, dgV, h], by simp [dgS], by omega⟩
    · rw [e1]; simp [dgS, h]
  · have e1 : dgN i = 2 := by unfold dgN; rw [if_neg h]
    refine ⟨by rw [Lib.decDigits_two h hi, e1]; rfl, ?_, ?_, by omega, by omega⟩
    · intro j hj
      have : j = 0 ∨ j = 1 := by omega
      rw [Lib.decDigits_two h hi]
      rcases this with rfl | rfl
      · refine ⟨by simp [dgV, h], by unfold dgV; rw [if_neg h, if_pos rfl]; omega, by simp [dgS, dgV, h], by simp [dgS], by omega⟩
      · refine ⟨by simp [dgV, h], by unfold dgV; rw [if_neg h, if_neg (by decide)]; omega, by simp [dgS, dgV, h]; omega, by simp [dgS, h]; omega, by simp [dgS, h]; omega⟩
    · rw [e1]; simp [dgS, h]

theorem drop_at {T l r : List UInt8} {k j : Nat} (h : T.drop k = l ++ r) (hj : j < l.length) : T[k + j]? = l[j]? := by
  have : (T.drop k)[j]? = (l ++ r)[j]? := by rw [h]
  rw [List.getElem?_drop, List.getElem?_append_left hj] at this
  exact this
theorem drop_behind {T l r : List UInt8} {c : UInt8} {k : Nat} (h : T.drop k = l ++ c :: r) : T[k + l.length]? = some c := by
  have : (T.drop k)[l.length]? = (l ++ c :: r)[l.length]? := by rw [h]
  rw [List.getElem?_drop] at this
  rw [this]; simp

set_option maxHeartbeats 4000000 in
set_option maxRecDepth 100000 in
theorem digits_yes (R : Nat) (T : List UInt8) (at_ ln : Nat) (w : World) (h : Rd w R T at_ ln) (hT : T.length ≤ 1000000) (i : Int) (h0 : 0 ≤ i) (hi : i < 100) (c : UInt8) (r : List UInt8) (hd : T.drop at_ = Lib.decDigits i.toNat ++ c :: r) (hc : c.toNat < 48) :
    Calls Tryd.prog 77 #[.pointer (some ⟨R, 0, none⟩)] w fun e w' => e = .returned (.int .i64 i) ∧ Rd w' R T (at_ + (Lib.decDigits i.toNat).length) ln ∧ Mvd R w w' := by
  obtain ⟨v, rfl⟩ : ∃ v : Nat, i = (v : Int) := ⟨i.toNat, by omega⟩
  have hv : v < 100 := by omega
  have hto : ((v : Int)).toNat = v := by omega
  rw [hto] at hd ⊢
  obtain ⟨hl, hall, hend, hm1, hm2⟩ := dg_facts hv
  obtain ⟨m, hm⟩ : ∃ m, dgN v = m := ⟨_, rfl⟩
  rw [hm] at hl hall hend hm1 hm2
  have hbe := drop_behind hd
  rw [hl] at hbe ⊢
  have hblt : at_ + m < T.length := (List.getElem?_eq_some_iff.1 hbe).1
  have hdg : ∀ j, j < m → T[at_ + j]? = some (UInt8.ofNat (48 + dgV v j)) := fun j hj => by rw [drop_at hd (by omega)]; exact (hall j hj).1
  have Hall := Lib.hid hall; have Hdg := Lib.hid hdg; have Hbe := Lib.hid hbe; have Hend := Lib.hid hend
  have x1 := h.x1
  have HR := Lib.hid h
  clear h hd hl hall hdg hbe hend hm hto
  go_enter Tryd.func77, Tryd.ntmps77
  go_wp2_with fail
  go_loopg [4] m (fun kk s4 wx => ∃ j : Nat, s4 = .int .i64 (dgS v j : Int) ∧ j ≤ m ∧ m - j = kk ∧ Rd wx R T (at_ + j) ln ∧ Mvd R w wx)
  case atStart => exact ⟨0, by simp [dgS], by omega, by omega, HR.out, Mvd.refl R w⟩
  case round =>
    clear HR x1
    obtain ⟨j, rfl, hj1, hk, hr, hmv⟩ := hrel
    by_cases hjm : j = m
    · subst hjm
      have HD := Lib.hid (digit_no R T (at_ + j) ln wr hr c Hbe.out hc)
      have H := Lib.hid hr; have HM := Lib.hid hmv
      have q1 : (((at_ + j : Nat) : Int) == (at_ : Int)) = false := bf (by omega)
      clear hr hmv
      go_wp2_with fail
      refine HD.out.mono ?_
      rintro e w1 ⟨rfl, hx⟩
      have x1 := (H.out.ext hx).x1
      have HR := Lib.hid (H.out.ext hx); have HM1 := Lib.hid (HM.out.trans (Mvd.of_ext (R := R) hx))
      clear hx HD H HM
      obtain ⟨k, hk'⟩ : ∃ k : Int, ((at_ + j : Nat) : Int) = k := ⟨_, rfl⟩
      rw [hk'] at q1 x1
      clear hk'
      have hend := Hend.out
      rw [hend]
      clear hend
      go_wp2_with fail
      go_ret
      exact ⟨rfl, HR.out, HM1.out⟩
    · obtain ⟨_, hv9, hstep, hs9, hpos⟩ := Hall.out j (by omega)
      have hcj := Hdg.out j (by omega)
      have h48 : (UInt8.ofNat (48 + dgV v j)).toNat = 48 + dgV v j := by
        simp [UInt8.toNat_ofNat']; omega
      have HD := Lib.hid (digit_yes R T (at_ + j) ln wr hr _ hcj (by omega) (by omega))
      obtain ⟨a, ha⟩ : ∃ a, at_ + j = a := ⟨_, rfl⟩
      rw [ha] at hr hcj
      have hlt : a < T.length := (List.getElem?_eq_some_iff.1 hcj).1
      have hsz : a < (⟨T.toArray⟩ : ByteArray).size := by simpa [ByteArray.size] using hlt
      have hg : ((⟨T.toArray⟩ : ByteArray)[a]'hsz).toNat = 48 + dgV v j := by rw [byte_at hcj hsz]; exact h48
      obtain ⟨d, hdd⟩ : ∃ d, dgV v j = d := ⟨_, rfl⟩
      obtain ⟨sv, hsv⟩ : ∃ s, dgS v j = s := ⟨_, rfl⟩
      obtain ⟨s', hs'⟩ : ∃ s, 10 * sv + d = s := ⟨_, rfl⟩
      obtain ⟨tn, htn⟩ : ∃ s, 10 * (sv : Int) = s := ⟨_, rfl⟩
      rw [hdd] at hv9 hstep hg; rw [hsv] at hstep hs9 hpos; rw [hs'] at hstep
      rw [hsv]
      have w1' : IntKind.u8.wrap ((((⟨T.toArray⟩ : ByteArray)[a]'hsz).toNat : Int) - 48) = (d : Int) := by rw [hg]; simp [IntKind.wrap, IntKind.bits, IntKind.signed]; omega
      have w2' : IntKind.i64.wrap (10 * (sv : Int)) = tn := by rw [IntKind.wrap_i64]; omega
      have w3' : IntKind.i64.wrap (tn + (d : Int)) = (s' : Int) := by rw [IntKind.wrap_i64]; omega
      have w5' : IntKind.i64.wrap (d : Int) = (d : Int) := by rw [IntKind.wrap_i64]; omega
      obtain ⟨ak, hak⟩ : ∃ x : Int, ((a + 1 : Nat) : Int) = x := ⟨_, rfl⟩
      have w4' : IntKind.i64.wrap ((a : Int) + 1) = ak := by rw [IntKind.wrap_i64]; omega
      obtain ⟨df', hdf⟩ : ∃ x : Int, ak - (at_ : Int) = x := ⟨_, rfl⟩
      have w6' : IntKind.i64.wrap (ak - (at_ : Int)) = df' := by rw [IntKind.wrap_i64]; omega
      have q9 : decide ((9 : Int) < df') = false := df (by omega)
      have b0 : (0 : Int) ≤ (a : Int) := by omega
      have b1 : (a : Int) < (T.length : Int) := by omega
      have H := Lib.hid hr; have HM := Lib.hid hmv; have Hst := Lib.hid hstep; have Haj := Lib.hid ha
      by_cases hj0 : j = 0
      · have q1 : ((a : Int) == (at_ : Int)) = true := bt' (by omega)
        clear hr hmv hstep hcj h48 hg hdd hsv hs' htn hdf
        clear hj0 hpos
        go_wp2_with fail
        refine HD.out.mono ?_
        rintro e w1 ⟨rfl, hx⟩
        have hr1 := H.out.ext hx
        have x0 := hr1.x0; have x1 := hr1.x1; have f1 := hr1.f 1
        have HR := Lib.hid (hr1.put1 (a + 1)); have HM1 := Lib.hid ((HM.out.trans (Mvd.of_ext (R := R) hx)).put 1 (.int .i64 ((a + 1 : Nat) : Int)))
        have HRd := Lib.hid hr1; have HMd := Lib.hid (HM.out.trans (Mvd.of_ext (R := R) hx))
        clear hx HD H HM hr1
        go_upto_region 3 with fail
        go_quiet (fail)
        have hr2 : Rd (w1.drewN nq) R T a ln := HRd.out.ext (ext_drewN w1 nq)
        have HM2 := Lib.hid ((HMd.out.trans (Mvd.of_ext (R := R) (ext_drewN w1 nq))).put 1 (.int .i64 ((a + 1 : Nat) : Int)))
        have HR2 := Lib.hid (hr2.put1 (a + 1))
        have y1 := hr2.x1; have g1 := hr2.f 1
        have z1 := (hr2.put1 (a + 1)).x1
        rw [hak] at HM2 HR2 z1
        clear x0 x1 f1 HR HM1 HRd HMd hr2
        generalize w1.drewN nq = w2 at *
        go_wp2_with fail
        go_roundg (m - (j + 1))
        case measure => omega
        case rel => exact ⟨j + 1, by rw [Hst.out], by omega, rfl, by rw [← Nat.add_assoc, Haj.out]; exact HR2.out, HM2.out⟩
      · have q1 : ((a : Int) == (at_ : Int)) = false := bf (by omega)
        have q2 : decide ((0 : Int) < (sv : Int)) = true := dt (by have := hpos (by omega); omega)
        have q2' : (0 : Int) < (sv : Int) := by have := hpos (by omega); omega
        clear hr hmv hstep hcj h48 hg hdd hsv hs' htn hdf
        clear hj0 hpos
        go_wp2_with fail
        refine HD.out.mono ?_
        rintro e w1 ⟨rfl, hx⟩
        have hr1 := H.out.ext hx
        have x0 := hr1.x0; have x1 := hr1.x1; have f1 := hr1.f 1
        have HR := Lib.hid (hr1.put1 (a + 1)); have HM1 := Lib.hid ((HM.out.trans (Mvd.of_ext (R := R) hx)).put 1 (.int .i64 ((a + 1 : Nat) : Int)))
        have HRd := Lib.hid hr1; have HMd := Lib.hid (HM.out.trans (Mvd.of_ext (R := R) hx))
        clear hx HD H HM hr1
        go_upto_region 3 with fail
        go_quiet (fail)
        have hr2 : Rd (w1.drewN nq) R T a ln := HRd.out.ext (ext_drewN w1 nq)
        have HM2 := Lib.hid ((HMd.out.trans (Mvd.of_ext (R := R) (ext_drewN w1 nq))).put 1 (.int .i64 ((a + 1 : Nat) : Int)))
        have HR2 := Lib.hid (hr2.put1 (a + 1))
        have y1 := hr2.x1; have g1 := hr2.f 1
        have z1 := (hr2.put1 (a + 1)).x1
        rw [hak] at HM2 HR2 z1
        clear x0 x1 f1 HR HM1 HRd HMd hr2
        generalize w1.drewN nq = w2 at *
        go_wp2_with fail
        go_roundg (m - (j + 1))
        case measure => omega
        case rel => exact ⟨j + 1, by rw [Hst.out], by omega, rfl, by rw [← Nat.add_assoc, Haj.out]; exact HR2.out, HM2.out⟩

end Go.Proofs.YtfjbhiihfibbaaaDoor

/-
  The reader: numbers, conditions, kinds.
-/
namespace Go.Proofs.YtfjbhiihfibbaaaDoor
open Go.RowKit

theorem pre_of {T p r : List UInt8} {k : Nat} (h : T.drop k = p ++ r) : Lib.hasPrefix (T.drop k) p = true := by
  rw [h]; exact List.isPrefixOf_iff_prefix.2 ⟨r, rfl⟩
theorem drop_step {T p r : List UInt8} {k : Nat} (h : T.drop k = p ++ r) : T.drop (k + p.length) = r := by
  rw [← List.drop_drop, h, List.drop_left]
theorem drop_le {T : List UInt8} {k : Nat} {c : UInt8} {r : List UInt8} (h : T.drop k = c :: r) : k < T.length := by
  rcases Nat.lt_or_ge k T.length with h1 | h1
  · exact h1
  · rw [List.drop_eq_nil_of_le h1] at h; cases h
theorem drop_le' {T : List UInt8} {k : Nat} {p r : List UInt8} (h : T.drop k = p ++ r) (hp : p ≠ []) : k < T.length := by
  cases p with
  | nil => exact absurd rfl hp
  | cons c q => exact drop_le h

set_option maxHeartbeats 1000000 in
theorem number_yes (R : Nat) (T : List UInt8) (at_ ln : Nat) (w : World) (h : Rd w R T at_ ln) (hT : T.length ≤ 1000000) (i : Int) (h0 : 0 ≤ i) (hi : i < 100) (c : UInt8) (r : List UInt8) (hd : T.drop at_ = numL i ++ c :: r) (hc : c.toNat < 48) :
    Calls Tryd.prog 60 #[.pointer (some ⟨R, 0, none⟩)] w fun e w' => e = .returned (.int .i64 i) ∧ Rd w' R T (at_ + (numL i).length) ln ∧ Mvd R w w' := by
  have hd1 : T.drop at_ = [32] ++ (Lib.decDigits i.toNat ++ c :: r) := hd
  have hd2 := drop_step hd1
  have hlt := drop_le hd
  have hln : at_ + (numL i).length = at_ + [32].length + (Lib.decDigits i.toNat).length := by simp [numL]; omega
  rw [hln]
  have HN := Lib.hid (need_yes R T at_ ln [32] w h (by omega) hT (pre_of hd1))
  have HD := Lib.hid hd2
  clear h hd hd1 hd2 hln
  go_enter Tryd.func60, Tryd.ntmps60
  go_wp2_with fail
  refine HN.out.mono ?_
  rintro e w1 ⟨rfl, hr, hm⟩
  have HG := Lib.hid (digits_yes R T _ ln w1 hr hT i h0 hi c r HD.out hc)
  have HM := Lib.hid hm
  clear hr hm
  go_wp2_with fail
  refine HG.out.mono ?_
  rintro e w2 ⟨rfl, hr2, hm2⟩
  have HR2 := Lib.hid hr2; have HM2 := Lib.hid (HM.out.trans hm2)
  clear hr2 hm2
  go_wp2_with fail
  go_ret
  exact ⟨rfl, HR2.out, HM2.out⟩

theorem dd_head {i : Nat} (h : i < 100) : ∃ (c : UInt8) (r : List UInt8), Lib.decDigits i = c :: r ∧ 48 ≤ c.toNat ∧ c.toNat ≤ 57 := by
  by_cases h1 : i < 10
  · refine ⟨_, _, Lib.decDigits_one h1, ?_⟩
    simp [UInt8.toNat_ofNat']; omega
  · refine ⟨_, _, Lib.decDigits_two h1 h, ?_⟩
    simp [UInt8.toNat_ofNat']; omega
theorem pre_not {l : List UInt8} {c d : UInt8} {r : List UInt8} (h : l = c :: r) (hne : c ≠ d) (q : List UInt8) : Lib.hasPrefix l (d :: q) = false := by
  rw [h]
  show (d == c && _) = false
  have : (d == c) = false := by simpa using fun e => hne e.symm
  rw [this]; rfl

set_option maxHeartbeats 1000000 in
theorem condition_yes (R : Nat) (T : List UInt8) (at_ ln : Nat) (w : World) (h : Rd w R T at_ ln) (hT : T.length ≤ 1000000) (t : Int) (ht0 : t ≠ 0) (ht : -12 ≤ t ∧ t ≤ 12) (c : UInt8) (r : List UInt8) (hd : T.drop at_ = cndL t ++ c :: r) (hc : c.toNat < 48) :
    Calls Tryd.prog 91 #[.pointer (some ⟨R, 0, none⟩)] w fun e w' => e = .returned (.int .i64 t) ∧ Rd w' R T (at_ + (cndL t).length) ln ∧ Mvd R w w' := by
  have hb0 : 0 ≤ bitOf t := by unfold bitOf; split <;> omega
  have hb1 : bitOf t < 100 := by unfold bitOf; split <;> omega
  by_cases hn : t < 0
  · have hL : cndL t = 32 :: 33 :: Lib.decDigits (bitOf t).toNat := by unfold cndL; rw [if_pos hn]
    have hbt : bitOf t = -t - 1 := by unfold bitOf; rw [if_neg (by omega)]
    rw [hL] at hd ⊢
    have hd1 : T.drop at_ = [32] ++ (33 :: (Lib.decDigits (bitOf t).toNat ++ c :: r)) := hd
    have hd2 := drop_step hd1
    have hd2' : T.drop (at_ + [(32 : UInt8)].length) = [33] ++ (Lib.decDigits (bitOf t).toNat ++ c :: r) := hd2
    have hd3 := drop_step hd2'
    have hlt := drop_le hd
    have hlt2 := drop_le hd2
    have hln : at_ + (32 :: 33 :: Lib.decDigits (bitOf t).toNat).length = at_ + [(32 : UInt8)].length + [(33 : UInt8)].length + (Lib.decDigits (bitOf t).toNat).length := by simp; omega
    rw [hln]
    have HN := Lib.hid (need_yes R T at_ ln [32] w h (by omega) hT (pre_of hd1))
    have HD := Lib.hid hd3; have HP := Lib.hid (pre_of hd2')
    have HQ := Lib.hid (show -(bitOf t + 1) = t by omega)
    obtain ⟨bb, hbb⟩ : ∃ x, bitOf t = x := ⟨_, rfl⟩
    rw [hbb] at HD HQ hb0 hb1 ⊢
    clear h hd hd1 hd2 hd3 hd2' hln hL hbb hbt hlt hn
    go_enter Tryd.func91, Tryd.ntmps91
    go_wp2_with fail
    refine HN.out.mono ?_
    rintro e w1 ⟨rfl, hr, hm⟩
    have HT := Lib.hid (take_yes R T _ ln [33] w1 hr (Nat.le_of_lt hlt2) hT HP.out)
    have HM := Lib.hid hm
    clear hr hm
    go_wp2_with fail
    refine HT.out.mono ?_
    rintro e w2 ⟨rfl, hr2, hm2⟩
    have HG := Lib.hid (digits_yes R T _ ln w2 hr2 hT bb hb0 hb1 c r HD.out hc)
    have HM2 := Lib.hid (HM.out.trans hm2)
    clear hr2 hm2
    go_wp2_with fail
    refine HG.out.mono ?_
    rintro e w3 ⟨rfl, hr3, hm3⟩
    have HR3 := Lib.hid hr3; have HM3 := Lib.hid (HM2.out.trans hm3)
    clear hr3 hm3
    go_wp2_with fail
    go_ret
    exact ⟨congrArg (fun b => Ending.returned (Value.int .i64 b)) HQ.out, HR3.out, HM3.out⟩
  · have hL : cndL t = 32 :: Lib.decDigits (bitOf t).toNat := by unfold cndL; rw [if_neg hn]; rfl
    have hbt : bitOf t = t - 1 := by unfold bitOf; rw [if_pos (by omega)]
    rw [hL] at hd ⊢
    have hd1 : T.drop at_ = [32] ++ (Lib.decDigits (bitOf t).toNat ++ c :: r) := hd
    have hd2 := drop_step hd1
    have hlt := drop_le hd
    obtain ⟨c', r', hc', h48, h57⟩ := dd_head (i := (bitOf t).toNat) (by omega)
    have hlt2 : at_ + [(32 : UInt8)].length < T.length := by rw [hc'] at hd2; exact drop_le hd2
    have hnp : Lib.hasPrefix (T.drop (at_ + [(32 : UInt8)].length)) [33] = false := by
      rw [hc'] at hd2
      exact pre_not hd2 (fun e => by rw [e] at h48; exact absurd h48 (by decide)) []
    have hln : at_ + (32 :: Lib.decDigits (bitOf t).toNat).length = at_ + [(32 : UInt8)].length + (Lib.decDigits (bitOf t).toNat).length := by simp; omega
    rw [hln]
    have HN := Lib.hid (need_yes R T at_ ln [32] w h (by omega) hT (pre_of hd1))
    have HD := Lib.hid hd2; have HP := Lib.hid hnp
    have hw1 : IntKind.i64.wrap (bitOf t + 1) = t := by rw [IntKind.wrap_i64]; omega
    obtain ⟨bb, hbb⟩ : ∃ x, bitOf t = x := ⟨_, rfl⟩
    rw [hbb] at HD hw1 hb0 hb1 ⊢
    clear h hd hd1 hd2 hln hL hbb hbt hlt hnp hc' h48 h57 hn
    go_enter Tryd.func91, Tryd.ntmps91
    go_wp2_with fail
    refine HN.out.mono ?_
    rintro e w1 ⟨rfl, hr, hm⟩
    have HT := Lib.hid (take_no R T _ ln [33] w1 hr (Nat.le_of_lt hlt2) HP.out)
    have HM := Lib.hid hm; have HR := Lib.hid hr
    clear hr hm
    go_wp2_with fail
    refine HT.out.mono ?_
    rintro e w2 ⟨rfl, hx2⟩
    have HG := Lib.hid (digits_yes R T _ ln w2 (HR.out.ext hx2) hT bb hb0 hb1 c r HD.out hc)
    have HM2 := Lib.hid (HM.out.trans (Mvd.of_ext hx2))
    clear hx2
    go_wp2_with fail
    refine HG.out.mono ?_
    rintro e w3 ⟨rfl, hr3, hm3⟩
    have HR3 := Lib.hid hr3; have HM3 := Lib.hid (HM2.out.trans hm3)
    clear hr3 hm3
    go_wp2_with fail
    go_ret
    exact ⟨rfl, HR3.out, HM3.out⟩

theorem word_not (j kn : Nat) (r : List UInt8) (h1 : 1 ≤ j) (h2 : j < kn) (h3 : kn ≤ 6) : Lib.hasPrefix ((wordOf kn).data.toList ++ 32 :: r) ((wordOf j).data.toList ++ [32]) = false := by
  have hj : j = 1 ∨ j = 2 ∨ j = 3 ∨ j = 4 ∨ j = 5 := by omega
  have hk : kn = 2 ∨ kn = 3 ∨ kn = 4 ∨ kn = 5 ∨ kn = 6 := by omega
  rcases hj with rfl | rfl | rfl | rfl | rfl <;> rcases hk with rfl | rfl | rfl | rfl | rfl <;> first | omega | rfl
theorem word_len (k : Nat) (h1 : 1 ≤ k) (h2 : k ≤ 6) : 1 ≤ (wordOf k).data.toList.length ∧ (wordOf k).data.toList.length ≤ 7 := by
  have hk : k = 1 ∨ k = 2 ∨ k = 3 ∨ k = 4 ∨ k = 5 ∨ k = 6 := by omega
  rcases hk with rfl | rfl | rfl | rfl | rfl | rfl <;> decide

set_option maxHeartbeats 2000000 in
theorem kind_yes (R : Nat) (T : List UInt8) (at_ ln : Nat) (W0 w : World) (hE : Ext W0 w) (hS : Shp W0) (h : Rd w R T at_ ln) (hT : T.length ≤ 1000000) (kn : Nat) (h1 : 1 ≤ kn) (h6 : kn ≤ 6) (r : List UInt8) (hd : T.drop at_ = (wordOf kn).data.toList ++ 32 :: r) :
    Calls Tryd.prog 78 #[.pointer (some ⟨R, 0, none⟩)] w fun e w' => e = .returned (.int .i64 (kn : Int)) ∧ Rd w' R T (at_ + (wordOf kn).data.toList.length) ln ∧ Mvd R w w' := by
  have hwl := word_len kn h1 h6
  have hlt : at_ < T.length := drop_le' hd (by intro e; rw [e] at hwl; simp at hwl)
  have HS := Lib.hid (hS.ext hE); have HR := Lib.hid h; have HD := Lib.hid hd
  clear hS h hd hE
  go_enter Tryd.func78, Tryd.ntmps78
  go_wp2_with fail
  go_loopg [3] (kn - 1) (fun kk s3 wx => ∃ j : Nat, s3 = .int .i64 (j : Int) ∧ 1 ≤ j ∧ j ≤ kn ∧ kn - j = kk ∧ Ext w wx)
  case atStart => exact ⟨1, rfl, by omega, h1, by omega, Ext.refl w⟩
  case round =>
    obtain ⟨j, rfl, hj1, hj2, hk, hx⟩ := hrel
    have q1 : (j : Int) ≤ 6 := by omega
    have q2 : decide ((j : Int) ≤ 6) = true := dt q1
    have i0 : (0 : Int) ≤ (j : Int) := by omega
    have i1 : (j : Int) < 7 := by omega
    obtain ⟨t0, _, _, _, _⟩ := (HS.out.ext hx) j hj1 (by omega)
    have hwj := word_len j hj1 (by omega)
    obtain ⟨wl, hwl'⟩ : ∃ x, (wordOf j).data.toList = x := ⟨_, rfl⟩
    have hwd : wordOf j = ⟨wl.toArray⟩ := by rw [← hwl']
    rw [hwd] at t0
    rw [hwl'] at hwj
    have hs1 : ∀ W : World, (Op.stringOp .add ⟨wl.toArray⟩ ⟨#[32]⟩).run Tryd.prog W = .ok (.string ⟨(wl ++ [32]).toArray⟩) W := fun W => by
      rw [run_string_add_sum W _ _ (by simp [ByteArray.size]; omega)]
      rfl
    obtain ⟨wb, hwb⟩ : ∃ x, wl ++ [(32 : UInt8)] = x := ⟨_, rfl⟩
    rw [hwb] at hs1
    have HSe := Lib.hid (sees_any R T at_ ln wb wr (HR.out.ext hx) (Nat.le_of_lt hlt))
    have HX := Lib.hid hx
    by_cases hjk : j = kn
    · have hp : Lib.hasPrefix (T.drop at_) wb = true := by
        rw [HD.out, ← hwb, ← hwl', hjk]
        exact List.isPrefixOf_iff_prefix.2 ⟨r, by simp⟩
      have hp2 : Lib.hasPrefix (T.drop at_) wl = true := by
        rw [HD.out, ← hwl', hjk]
        exact List.isPrefixOf_iff_prefix.2 ⟨32 :: r, rfl⟩
      rw [hp] at HSe
      have HNe := Lib.hid (fun wx (hx' : Ext wr wx) => need_yes R T at_ ln wl wx ((HR.out.ext hx).ext hx') (Nat.le_of_lt hlt) hT hp2)
      have hll : (wordOf kn).data.toList = wl := by rw [← hwl', hjk]
      have Hll := Lib.hid hll
      have HJ := Lib.hid hjk
      clear hx hwl' hwd hwb hp hp2 hll hjk
      go_wp2_with fail
      refine HSe.out.mono ?_
      rintro e w1 ⟨rfl, hx1⟩
      have HX1 := Lib.hid hx1
      clear hx1
      go_wp2_with fail
      refine (HNe.out w1 HX1.out).mono ?_
      rintro e w2 ⟨rfl, hr2, hm2⟩
      have HR2 := Lib.hid hr2; have HM2 := Lib.hid ((Mvd.of_ext (R := R) (HX.out.trans HX1.out)).trans hm2)
      clear hr2 hm2
      go_wp2_with fail
      go_ret
      exact ⟨congrArg (fun b : Nat => Ending.returned (Value.int .i64 (b : Int))) HJ.out, by rw [Hll.out]; exact HR2.out, HM2.out⟩
    · have hp : Lib.hasPrefix (T.drop at_) wb = false := by
        rw [HD.out, ← hwb, ← hwl']
        exact word_not j kn r hj1 (by omega) h6
      rw [hp] at HSe
      clear hx hwl' hwd hwb hp
      go_wp2_with fail
      refine HSe.out.mono ?_
      rintro e w1 ⟨rfl, hx1⟩
      have HX1 := Lib.hid (HX.out.trans hx1)
      clear hx1
      go_wp2_with fail
      go_roundg (kn - (j + 1))
      case measure => omega
      case rel => exact ⟨j + 1, by go_num, by omega, by omega, rfl, HX1.out⟩

end Go.Proofs.YtfjbhiihfibbaaaDoor

/-
  The reader: lists of numbers and of conditions.
-/
namespace Go.Proofs.YtfjbhiihfibbaaaDoor
open Go.RowKit

theorem own_mvd {w w' : World} {base n R : Nat} {v : Value} {xs : List Value} (h : w.ownsRow base 3 1 v n xs) (k : Mvd R w w') (hR : R < base) : w'.ownsRow base 3 1 v n xs := by
  refine ⟨h.1, ?_⟩
  rcases h.2 with h0 | ⟨g, cap, cur, e1, e2, e3, r⟩
  · exact Or.inl h0
  · exact Or.inr ⟨g, cap, cur, e1, e2, (k.block g (Array.getElem?_eq_some_iff.1 e3).1 (by omega)).trans e3, r⟩
theorem own_one (w : World) (x : Int) : (w.alloc (.cells #[.int .i64 x] 3)).ownsRow w.heap.size 3 1 (.slice (some ⟨w.heap.size, 0, none⟩) 1 1) 1 (iC [x]) :=
  ⟨rfl, Or.inr ⟨w.heap.size, 1, #[.int .i64 x], rfl, Nat.le_refl _, heap_alloc_new w _, by omega, by unfold maxLen; omega, rfl, rfl⟩⟩
theorem Mvd.grown {R : Nat} {w a b : World} {row : Option Nat} (h : Mvd R w a) (hg : a.grownBy b row) (hr : ∀ k, row = some k → w.heap.size ≤ k) : Mvd R w b := by
  refine ⟨hg.os.trans h.os, hg.tape.trans h.tape, hg.output.trans h.output, Nat.le_trans h.size hg.size, fun k hk hne => ?_⟩
  rw [hg.block k (Nat.lt_of_lt_of_le hk h.size) (fun e => by have := hr k e.symm; omega)]
  exact h.block k hk hne
theorem Rd.grown {a b : World} {R at_ ln : Nat} {T : List UInt8} {row : Option Nat} (h : Rd a R T at_ ln) (hg : a.grownBy b row) (hr : ∀ k, row = some k → R < k) : Rd b R T at_ ln := by
  refine ⟨?_⟩
  rw [hg.block R h.lt (fun e => by have := hr R e.symm; omega)]
  exact h.row
theorem take_flat (f : Int → List UInt8) (l : List Int) (j : Nat) : l.flatMap f = (l.take j).flatMap f ++ (l.drop j).flatMap f := by
  rw [← List.flatMap_append, List.take_append_drop]
theorem drop_cons' {l : List Int} {j : Nat} (h : j < l.length) : l.drop j = l.getD j 0 :: l.drop (j + 1) := by
  rw [List.drop_eq_getElem_cons h, List.getD_eq_getElem?_getD, List.getElem?_eq_getElem h]; rfl
/-- What follows a list on a line. -/
def Stops (tl : List UInt8) : Prop := (∃ r, tl = 10 :: r) ∨ ∃ r, tl = 32 :: 105 :: 102 :: r
theorem Stops.head {tl : List UInt8} (h : Stops tl) : ∃ c r, tl = c :: r ∧ c.toNat < 48 := by
  rcases h with ⟨r, rfl⟩ | ⟨r, rfl⟩
  · exact ⟨_, _, rfl, by decide⟩
  · exact ⟨_, _, rfl, by decide⟩
theorem pre_cons {c : UInt8} {l q : List UInt8} : Lib.hasPrefix (c :: l) (c :: q) = Lib.hasPrefix l q := by
  show ((c == c) && _) = _
  simp [Lib.hasPrefix]

theorem numL_head (x : Int) : ∃ r, numL x = 32 :: r := ⟨_, rfl⟩
theorem cndL_head (x : Int) : ∃ r, cndL x = 32 :: r := by
  unfold cndL
  split
  · exact ⟨_, rfl⟩
  · exact ⟨_, rfl⟩

set_option maxHeartbeats 4000000 in
set_option maxRecDepth 100000 in
theorem controls_yes (R : Nat) (T : List UInt8) (at_ ln : Nat) (w : World) (h : Rd w R T at_ ln) (hT : T.length ≤ 1000000) (l : List Int) (hl0 : 0 < l.length) (hl : ∀ c ∈ l, 0 ≤ c ∧ c < 100) (hlen : l.length ≤ 24) (tl : List UInt8) (hd : T.drop at_ = l.flatMap numL ++ tl) (hs : Stops tl) :
    Calls Tryd.prog 79 #[.pointer (some ⟨R, 0, none⟩)] w fun e w' => (∃ (a' : Option Addr) (c' : Nat), e = .returned (.slice a' l.length c') ∧ l.length ≤ c' ∧ c' ≤ maxLen ∧ IntsAt w' a' l.length l ∧ TyI w' a' ∧ ∀ b o, a' = some ⟨b, o, none⟩ → w.heap.size ≤ b) ∧ Rd w' R T (at_ + (l.flatMap numL).length) ln ∧ Mvd R w w' := by
  obtain ⟨i0, hi, hz0, hz1, hz2⟩ := info_parts i_info
  have hst : Stops tl := hs
  have hlR := h.lt
  have hrest : ∀ j, j ≤ l.length → T.drop (at_ + ((l.take j).flatMap numL).length) = (l.drop j).flatMap numL ++ tl := fun j _ => by
    have : T.drop at_ = (l.take j).flatMap numL ++ ((l.drop j).flatMap numL ++ tl) := by rw [hd, take_flat numL l j, List.append_assoc]
    exact drop_step this
  have hone : ∀ j, j < l.length → ∃ (c : UInt8) (r : List UInt8), T.drop (at_ + ((l.take j).flatMap numL).length) = numL (l.getD j 0) ++ c :: r ∧ c.toNat < 48 := fun j hj => by
    rw [hrest j (Nat.le_of_lt hj), drop_cons' hj, List.flatMap_cons, List.append_assoc]
    by_cases h2 : j + 1 < l.length
    · rw [drop_cons' h2, List.flatMap_cons]
      obtain ⟨r', hr'⟩ := numL_head (l.getD (j + 1) 0)
      exact ⟨32, _, by rw [hr']; rfl, by decide⟩
    · rw [List.drop_eq_nil_of_le (by omega)]
      obtain ⟨c, r, e, hc⟩ := hst.head
      exact ⟨c, r, by rw [e]; rfl, hc⟩
  have hin : ∀ j, j ≤ l.length → at_ + ((l.take j).flatMap numL).length ≤ T.length := fun j hj => by
    obtain ⟨c, r, e, _⟩ := hst.head
    have h1 := hrest j hj
    rw [e] at h1
    have := drop_le' (p := (l.drop j).flatMap numL ++ [c]) (r := r) (by rw [h1]; simp) (by simp)
    omega
  have hnx : ∀ j, j < l.length → (l.take (j + 1)).flatMap numL = (l.take j).flatMap numL ++ numL (l.getD j 0) := fun j hj => flat_snoc numL l j hj
  have Hrest := Lib.hid hrest; have Hone := Lib.hid hone; have Hin := Lib.hid hin; have Hnx := Lib.hid hnx; have Hfit := Lib.hid hl; have Hst := Lib.hid hs
  have HR := Lib.hid h
  obtain ⟨c0, r0, e0, hc0⟩ := hone 0 hl0
  have hat0 : at_ + ((l.take 0).flatMap numL).length = at_ := by simp
  rw [hat0] at e0
  have hm0 := hl _ (getD_mem' hl0)
  obtain ⟨x0, hx0⟩ : ∃ x, l.getD 0 0 = x := ⟨_, rfl⟩
  rw [hx0] at e0 hm0
  have HN0 := Lib.hid (number_yes R T at_ ln w h hT x0 hm0.1 hm0.2 c0 r0 e0 hc0)
  have h1t : l.take 1 = [x0] := by
    rw [take_succ' l 0 hl0, hx0]; rfl
  have H1t := Lib.hid h1t
  clear h hd hs hst hrest hone hin hnx hl e0 hx0 hat0 h1t hc0
  go_enter Tryd.func79, Tryd.ntmps79
  go_wp2_with fail
  refine HN0.out.mono ?_
  rintro e w1 ⟨rfl, hr1, hm1⟩
  have ho1 := own_one w1 x0
  have E1 := ext_al w1 (.cells #[.int .i64 x0] 3)
  have hsz1 := hm1.size
  have Ho1 := Lib.hid (show (w1.alloc (.cells #[.int .i64 x0] 3)).ownsRow w.heap.size 3 1 (.slice (some ⟨w1.heap.size, 0, none⟩) 1 1) 1 (iC [x0]) from ⟨ho1.1, by
    rcases ho1.2 with h0 | ⟨g, cap, cur, q1, q2, q3⟩
    · exact Or.inl h0
    · exact Or.inr ⟨g, cap, cur, q1, Nat.le_trans hsz1 q2, q3⟩⟩)
  have HR1 := Lib.hid (hr1.ext E1); have HM1 := Lib.hid (hm1.trans (Mvd.of_ext (R := R) E1))
  have hs2 := HM1.out.size
  clear hr1 hm1 ho1 E1 HN0 HR
  go_wp2_with fail
  go_loopg [3] (l.length - 1) (fun kk s3 wx => ∃ j : Nat, 1 ≤ j ∧ j ≤ l.length ∧ l.length - j = kk ∧ wx.ownsRow w.heap.size 3 1 s3 (l.take j).length (iC (l.take j)) ∧ Rd wx R T (at_ + ((l.take j).flatMap numL).length) ln ∧ Mvd R w wx)
  case atStart => exact ⟨1, by omega, by omega, rfl, by rw [H1t.out]; exact Ho1.out, by rw [H1t.out]; simpa using HR1.out, HM1.out⟩
  case round =>
    clear Ho1 HR1 HM1 hs2 hsz1
    obtain ⟨j, hj1, hj2, hk, hown, hr, hm⟩ := hrel
    have hll : (l.take j).length = j := by rw [List.length_take]; omega
    have hsz := hm.size
    obtain ⟨ap, hap⟩ : ∃ x, at_ + ((l.take j).flatMap numL).length = x := ⟨_, rfl⟩
    have hrest := Hrest.out j hj2
    have hinj := Hin.out j hj2
    rw [hap] at hr hrest hinj
    have HS1 := Lib.hid (sees_any R T ap ln [10] wr hr hinj)
    have HS2 := Lib.hid (fun wx (hx : Ext wr wx) => sees_any R T ap ln [32, 105, 102] wx (hr.ext hx) hinj)
    have Hown := Lib.hid hown; have HRr := Lib.hid hr; have HMr := Lib.hid hm; have Hap := Lib.hid hap
    by_cases hjn : j = l.length
    · have hdn : l.drop j = [] := List.drop_eq_nil_of_le (by omega)
      rw [hdn] at hrest
      have htk : l.take j = l := List.take_of_length_le (by omega)
      rw [htk] at hown
      have hto : (l.take j).flatMap numL = l.flatMap numL := by rw [htk]
      obtain ⟨a', c', hv, q1, q2, hI, hTy⟩ := ints_of_own hown
      subst hv
      have Hnew := Lib.hid (show ∀ b o, a' = some ⟨b, o, none⟩ → w.heap.size ≤ b from fun b o e => by subst e; exact (own_lt hown b (by simp [Value.ownBlock])).1)
      have HI := Lib.hid hI; have Hto := Lib.hid hto; have HTy := Lib.hid hTy
      clear hTy
      rw [htk] at Hown
      rcases Hst.out with ⟨r, htl⟩ | ⟨r, htl⟩
      · have p1 : Lib.hasPrefix (T.drop ap) [10] = true := by rw [hrest, htl]; simp [Lib.hasPrefix]
        rw [p1] at HS1
        clear hr hm hown hrest hI hll hto htk hdn htl p1 hap
        go_wp2_with fail
        refine HS1.out.mono ?_
        rintro e w5 ⟨rfl, hx5⟩
        have HXz := Lib.hid hx5
        clear hx5
        go_wp2_with fail
        go_ret
        exact ⟨⟨a', c', rfl, q1, q2, HI.out.ext HXz.out, HTy.out.ext HXz.out, Hnew.out⟩, by rw [← Hto.out, Hap.out]; exact HRr.out.ext HXz.out, HMr.out.trans (Mvd.of_ext HXz.out)⟩
      · have p1 : Lib.hasPrefix (T.drop ap) [10] = false := by rw [hrest, htl]; rfl
        have p2 : Lib.hasPrefix (T.drop ap) [32, 105, 102] = true := by rw [hrest, htl]; simp [Lib.hasPrefix]
        rw [p1] at HS1
        rw [p2] at HS2
        clear hr hm hown hrest hI hll hto htk hdn htl p1 p2 hap
        go_wp2_with fail
        refine HS1.out.mono ?_
        rintro e w5 ⟨rfl, hx5⟩
        have HX5 := Lib.hid hx5
        clear hx5
        go_wp2_with fail
        refine (HS2.out w5 HX5.out).mono ?_
        rintro e w6 ⟨rfl, hx6⟩
        have HXz := Lib.hid (HX5.out.trans hx6)
        clear hx6
        go_wp2_with fail
        go_ret
        exact ⟨⟨a', c', rfl, q1, q2, HI.out.ext HXz.out, HTy.out.ext HXz.out, Hnew.out⟩, by rw [← Hto.out, Hap.out]; exact HRr.out.ext HXz.out, HMr.out.trans (Mvd.of_ext HXz.out)⟩
    · have hjl : j < l.length := by omega
      obtain ⟨c, r, e, hc⟩ := Hone.out j hjl
      rw [hap] at e
      have hm' := Hfit.out _ (getD_mem' hjl)
      have hnx := Hnx.out j hjl
      have htk1 := take_succ' l j hjl
      obtain ⟨x, hx⟩ : ∃ x, l.getD j 0 = x := ⟨_, rfl⟩
      rw [hx] at e hm' hnx htk1
      obtain ⟨rr, hrr⟩ := numL_head x
      have p1 : Lib.hasPrefix (T.drop ap) [10] = false := by rw [e, hrr]; rfl
      rw [p1] at HS1
      have p2 : Lib.hasPrefix (T.drop ap) [32, 105, 102] = false := by
        obtain ⟨d, r2, hd2, h48, h57⟩ := dd_head (i := x.toNat) (by omega)
        rw [e]
        show Lib.hasPrefix (32 :: (Lib.decDigits x.toNat ++ c :: r)) (32 :: [105, 102]) = false
        rw [pre_cons, hd2]
        exact pre_not rfl (fun e => by rw [e] at h57; exact absurd h57 (by decide)) _
      rw [p2] at HS2
      have HNm := Lib.hid (fun wx (hx' : Ext wr wx) => number_yes R T ap ln wx (hr.ext hx') hT x hm'.1 hm'.2 c r e hc)
      have Hnx' := Lib.hid hnx; have Htk := Lib.hid htk1
      clear hr hm hown hrest e hnx htk1 hx hrr p1 p2 hap hm'
      go_wp2_with fail
      refine HS1.out.mono ?_
      rintro e w5 ⟨rfl, hx5⟩
      have HX5 := Lib.hid hx5
      clear hx5
      go_wp2_with fail
      refine (HS2.out w5 HX5.out).mono ?_
      rintro e w6 ⟨rfl, hx6⟩
      have HX6 := Lib.hid (HX5.out.trans hx6)
      clear hx6
      go_wp2_with fail
      refine (HNm.out w6 HX6.out).mono ?_
      rintro e w8 ⟨rfl, hr8, hm8⟩
      have hm9 := (Mvd.of_ext (R := R) HX6.out).trans hm8
      have ho8 := own_mvd Hown.out hm9 hlR
      have hsz8 := (HMr.out.trans hm9).size
      have Ho8 := Lib.hid ho8; have HR8 := Lib.hid hr8; have HM8 := Lib.hid (HMr.out.trans hm9)
      clear hr8 hm8 hm9 ho8
      obtain ⟨L, hL⟩ : ∃ L, l.take j = L := ⟨_, rfl⟩
      rw [hL] at Ho8 Htk hll
      clear HS1 HS2 HNm Hown HRr HMr HX5 HX6
      go_wp2_with (at_builtin; refine wpList_append_own _ rfl _ _ 32 rfl w.heap.size 3 i0 (.int .i64 0) 1 8 Tryd.underlying32 hi hz0 hz1 hz2 rfl (by decide) _ (L).length (iC (L)) rfl (Ho8.out.alloc _) ⟨w8.heap.size, 0, none⟩ 1 1 [.int .i64 (x)] rfl rfl (new_i w8 (x) _) (one_i (x)) (by unfold maxLen; omega) (by omega) (Nat.le_trans hsz8 (ext_al w8 _).size) ?_; intro v' w7 hown' hgrow' _)
      have ho9 := Ho8.out.alloc (.cells #[.int .i64 x] 3)
      have HM9 := Lib.hid (Mvd.grown (HM8.out.trans (Mvd.of_ext (ext_al w8 (.cells #[.int .i64 x] 3)))) hgrow' (fun k hk => (own_lt ho9 k hk).1))
      have HR9 := Lib.hid (Rd.grown (HR8.out.ext (ext_al w8 (.cells #[.int .i64 x] 3))) hgrow' (fun k hk => by have := (own_lt ho9 k hk).1; omega))
      have HO9 := Lib.hid (own_snoc hown')
      clear hown' hgrow' ho9
      go_wp2_with fail
      go_roundg (l.length - (j + 1))
      case measure => omega
      case rel => exact ⟨j + 1, by omega, by omega, rfl, by rw [Htk.out]; exact HO9.out, by rw [Hnx'.out, List.length_append, ← Nat.add_assoc, Hap.out]; exact HR9.out, HM9.out⟩

set_option maxHeartbeats 4000000 in
set_option maxRecDepth 100000 in
theorem conditions_yes (R : Nat) (T : List UInt8) (at_ ln : Nat) (w : World) (h : Rd w R T at_ ln) (hT : T.length ≤ 1000000) (l : List Int) (hl0 : 0 < l.length) (hl : ∀ t ∈ l, t ≠ 0 ∧ -12 ≤ t ∧ t ≤ 12) (hlen : l.length ≤ 24) (tl : List UInt8) (hd : T.drop at_ = l.flatMap cndL ++ tl) (hs : ∃ r, tl = 10 :: r) :
    Calls Tryd.prog 80 #[.pointer (some ⟨R, 0, none⟩)] w fun e w' => (∃ (a' : Option Addr) (c' : Nat), e = .returned (.slice a' l.length c') ∧ l.length ≤ c' ∧ c' ≤ maxLen ∧ IntsAt w' a' l.length l ∧ TyI w' a' ∧ ∀ b o, a' = some ⟨b, o, none⟩ → w.heap.size ≤ b) ∧ Rd w' R T (at_ + (l.flatMap cndL).length) ln ∧ Mvd R w w' := by
  obtain ⟨i0, hi, hz0, hz1, hz2⟩ := info_parts i_info
  have hst : Stops tl := Or.inl hs
  have hlR := h.lt
  have hrest : ∀ j, j ≤ l.length → T.drop (at_ + ((l.take j).flatMap cndL).length) = (l.drop j).flatMap cndL ++ tl := fun j _ => by
    have : T.drop at_ = (l.take j).flatMap cndL ++ ((l.drop j).flatMap cndL ++ tl) := by rw [hd, take_flat cndL l j, List.append_assoc]
    exact drop_step this
  have hone : ∀ j, j < l.length → ∃ (c : UInt8) (r : List UInt8), T.drop (at_ + ((l.take j).flatMap cndL).length) = cndL (l.getD j 0) ++ c :: r ∧ c.toNat < 48 := fun j hj => by
    rw [hrest j (Nat.le_of_lt hj), drop_cons' hj, List.flatMap_cons, List.append_assoc]
    by_cases h2 : j + 1 < l.length
    · rw [drop_cons' h2, List.flatMap_cons]
      obtain ⟨r', hr'⟩ := cndL_head (l.getD (j + 1) 0)
      exact ⟨32, _, by rw [hr']; rfl, by decide⟩
    · rw [List.drop_eq_nil_of_le (by omega)]
      obtain ⟨c, r, e, hc⟩ := hst.head
      exact ⟨c, r, by rw [e]; rfl, hc⟩
  have hin : ∀ j, j ≤ l.length → at_ + ((l.take j).flatMap cndL).length ≤ T.length := fun j hj => by
    obtain ⟨c, r, e, _⟩ := hst.head
    have h1 := hrest j hj
    rw [e] at h1
    have := drop_le' (p := (l.drop j).flatMap cndL ++ [c]) (r := r) (by rw [h1]; simp) (by simp)
    omega
  have hnx : ∀ j, j < l.length → (l.take (j + 1)).flatMap cndL = (l.take j).flatMap cndL ++ cndL (l.getD j 0) := fun j hj => flat_snoc cndL l j hj
  have Hrest := Lib.hid hrest; have Hone := Lib.hid hone; have Hin := Lib.hid hin; have Hnx := Lib.hid hnx; have Hfit := Lib.hid hl; have Hst := Lib.hid hs
  have HR := Lib.hid h
  obtain ⟨c0, r0, e0, hc0⟩ := hone 0 hl0
  have hat0 : at_ + ((l.take 0).flatMap cndL).length = at_ := by simp
  rw [hat0] at e0
  have hm0 := hl _ (getD_mem' hl0)
  obtain ⟨x0, hx0⟩ : ∃ x, l.getD 0 0 = x := ⟨_, rfl⟩
  rw [hx0] at e0 hm0
  have HN0 := Lib.hid (condition_yes R T at_ ln w h hT x0 hm0.1 hm0.2 c0 r0 e0 hc0)
  have h1t : l.take 1 = [x0] := by
    rw [take_succ' l 0 hl0, hx0]; rfl
  have H1t := Lib.hid h1t
  clear h hd hs hst hrest hone hin hnx hl e0 hx0 hat0 h1t hc0
  go_enter Tryd.func80, Tryd.ntmps80
  go_wp2_with fail
  refine HN0.out.mono ?_
  rintro e w1 ⟨rfl, hr1, hm1⟩
  have ho1 := own_one w1 x0
  have E1 := ext_al w1 (.cells #[.int .i64 x0] 3)
  have hsz1 := hm1.size
  have Ho1 := Lib.hid (show (w1.alloc (.cells #[.int .i64 x0] 3)).ownsRow w.heap.size 3 1 (.slice (some ⟨w1.heap.size, 0, none⟩) 1 1) 1 (iC [x0]) from ⟨ho1.1, by
    rcases ho1.2 with h0 | ⟨g, cap, cur, q1, q2, q3⟩
    · exact Or.inl h0
    · exact Or.inr ⟨g, cap, cur, q1, Nat.le_trans hsz1 q2, q3⟩⟩)
  have HR1 := Lib.hid (hr1.ext E1); have HM1 := Lib.hid (hm1.trans (Mvd.of_ext (R := R) E1))
  have hs2 := HM1.out.size
  clear hr1 hm1 ho1 E1 HN0 HR
  go_wp2_with fail
  go_loopg [3] (l.length - 1) (fun kk s3 wx => ∃ j : Nat, 1 ≤ j ∧ j ≤ l.length ∧ l.length - j = kk ∧ wx.ownsRow w.heap.size 3 1 s3 (l.take j).length (iC (l.take j)) ∧ Rd wx R T (at_ + ((l.take j).flatMap cndL).length) ln ∧ Mvd R w wx)
  case atStart => exact ⟨1, by omega, by omega, rfl, by rw [H1t.out]; exact Ho1.out, by rw [H1t.out]; simpa using HR1.out, HM1.out⟩
  case round =>
    clear Ho1 HR1 HM1 hs2 hsz1
    obtain ⟨j, hj1, hj2, hk, hown, hr, hm⟩ := hrel
    have hll : (l.take j).length = j := by rw [List.length_take]; omega
    have hsz := hm.size
    obtain ⟨ap, hap⟩ : ∃ x, at_ + ((l.take j).flatMap cndL).length = x := ⟨_, rfl⟩
    have hrest := Hrest.out j hj2
    have hinj := Hin.out j hj2
    rw [hap] at hr hrest hinj
    have HS1 := Lib.hid (sees_any R T ap ln [10] wr hr hinj)
    have Hown := Lib.hid hown; have HRr := Lib.hid hr; have HMr := Lib.hid hm; have Hap := Lib.hid hap
    by_cases hjn : j = l.length
    · have hdn : l.drop j = [] := List.drop_eq_nil_of_le (by omega)
      rw [hdn] at hrest
      have htk : l.take j = l := List.take_of_length_le (by omega)
      rw [htk] at hown
      have hto : (l.take j).flatMap cndL = l.flatMap cndL := by rw [htk]
      obtain ⟨a', c', hv, q1, q2, hI, hTy⟩ := ints_of_own hown
      subst hv
      have Hnew := Lib.hid (show ∀ b o, a' = some ⟨b, o, none⟩ → w.heap.size ≤ b from fun b o e => by subst e; exact (own_lt hown b (by simp [Value.ownBlock])).1)
      have HI := Lib.hid hI; have Hto := Lib.hid hto; have HTy := Lib.hid hTy
      clear hTy
      rw [htk] at Hown
      obtain ⟨r, htl⟩ := Hst.out
      have p1 : Lib.hasPrefix (T.drop ap) [10] = true := by rw [hrest, htl]; simp [Lib.hasPrefix]
      rw [p1] at HS1
      clear hr hm hown hrest hI hll hto htk hdn htl p1 hap
      go_wp2_with fail
      refine HS1.out.mono ?_
      rintro e w5 ⟨rfl, hx5⟩
      have HXz := Lib.hid hx5
      clear hx5
      go_wp2_with fail
      go_ret
      exact ⟨⟨a', c', rfl, q1, q2, HI.out.ext HXz.out, HTy.out.ext HXz.out, Hnew.out⟩, by rw [← Hto.out, Hap.out]; exact HRr.out.ext HXz.out, HMr.out.trans (Mvd.of_ext HXz.out)⟩
    · have hjl : j < l.length := by omega
      obtain ⟨c, r, e, hc⟩ := Hone.out j hjl
      rw [hap] at e
      have hm' := Hfit.out _ (getD_mem' hjl)
      have hnx := Hnx.out j hjl
      have htk1 := take_succ' l j hjl
      obtain ⟨x, hx⟩ : ∃ x, l.getD j 0 = x := ⟨_, rfl⟩
      rw [hx] at e hm' hnx htk1
      obtain ⟨rr, hrr⟩ := cndL_head x
      have p1 : Lib.hasPrefix (T.drop ap) [10] = false := by rw [e, hrr]; rfl
      rw [p1] at HS1
      have HNm := Lib.hid (fun wx (hx' : Ext wr wx) => condition_yes R T ap ln wx (hr.ext hx') hT x hm'.1 hm'.2 c r e hc)
      have Hnx' := Lib.hid hnx; have Htk := Lib.hid htk1
      clear hr hm hown hrest e hnx htk1 hx hrr p1 hap hm'
      go_wp2_with fail
      refine HS1.out.mono ?_
      rintro e w5 ⟨rfl, hx5⟩
      have HX5 := Lib.hid hx5
      clear hx5
      go_wp2_with fail
      have HX6 := HX5
      refine (HNm.out w5 HX6.out).mono ?_
      rintro e w8 ⟨rfl, hr8, hm8⟩
      have hm9 := (Mvd.of_ext (R := R) HX6.out).trans hm8
      have ho8 := own_mvd Hown.out hm9 hlR
      have hsz8 := (HMr.out.trans hm9).size
      have Ho8 := Lib.hid ho8; have HR8 := Lib.hid hr8; have HM8 := Lib.hid (HMr.out.trans hm9)
      clear hr8 hm8 hm9 ho8
      obtain ⟨L, hL⟩ : ∃ L, l.take j = L := ⟨_, rfl⟩
      rw [hL] at Ho8 Htk hll
      clear HS1 HNm Hown HRr HMr HX5 HX6
      go_wp2_with (at_builtin; refine wpList_append_own _ rfl _ _ 32 rfl w.heap.size 3 i0 (.int .i64 0) 1 8 Tryd.underlying32 hi hz0 hz1 hz2 rfl (by decide) _ (L).length (iC (L)) rfl (Ho8.out.alloc _) ⟨w8.heap.size, 0, none⟩ 1 1 [.int .i64 (x)] rfl rfl (new_i w8 (x) _) (one_i (x)) (by unfold maxLen; omega) (by omega) (Nat.le_trans hsz8 (ext_al w8 _).size) ?_; intro v' w7 hown' hgrow' _)
      have ho9 := Ho8.out.alloc (.cells #[.int .i64 x] 3)
      have HM9 := Lib.hid (Mvd.grown (HM8.out.trans (Mvd.of_ext (ext_al w8 (.cells #[.int .i64 x] 3)))) hgrow' (fun k hk => (own_lt ho9 k hk).1))
      have HR9 := Lib.hid (Rd.grown (HR8.out.ext (ext_al w8 (.cells #[.int .i64 x] 3))) hgrow' (fun k hk => by have := (own_lt ho9 k hk).1; omega))
      have HO9 := Lib.hid (own_snoc hown')
      clear hown' hgrow' ho9
      go_wp2_with fail
      go_roundg (l.length - (j + 1))
      case measure => omega
      case rel => exact ⟨j + 1, by omega, by omega, rfl, by rw [Htk.out]; exact HO9.out, by rw [Hnx'.out, List.length_append, ← Nat.add_assoc, Hap.out]; exact HR9.out, HM9.out⟩

end Go.Proofs.YtfjbhiihfibbaaaDoor
