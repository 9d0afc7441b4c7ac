/-
  strconv.FormatUint to the base ten.
-/
import Derived.Test.YtdiojbgbeeojkaaGreatDoorShelf
import Derived.Test.YtdiojbgbeeojkaaGreatDoorMBase
import Derived.Test.YtdiojbgbeeojkaaGreatDoorMDivL
import Derived.Lib.AppendIntMem
import Derived.Test.YtdiojbgbeeojkaaGreatDoorMMulK

namespace Go.Proofs.YtdiojbgbeeojkaaGreatDoor
open Go.RowKit Go.Sort

/-- The table of powers of ten stands. -/
abbrev Ten (w : World) : Prop := Lib.TabIs Tryz.prog w "internal/strconv.uint64pow10" .u64 Lib.pow10Tab

set_option maxHeartbeats 6400000 in
set_option maxRecDepth 100000 in
theorem formatUint_in (u : Nat) (hu64 : u < 18446744073709551616) (w : World) (htab : Ten w) :
    Calls Tryz.prog 111 #[.int .u64 u, .int .i64 10] w fun e w' => e = .returned (.string ⟨(Lib.decDigits u).toArray⟩) ∧ Ext w w' := by
  by_cases hs : u < 100
  · have iu : (u : Int) < 100 := by omega
    go_enter Tryz.func111, Tryz.ntmps111
    go_wp2_with (go_at_call 107; refine (Tryz.internal_strconv_small u hs _).mono ?_; rintro e w' ⟨rfl, rfl⟩)
    go_ret
    exact ⟨rfl, Ext.refl _⟩
  · have hu1 : 1 ≤ u := by omega
    have iu : (100 : Int) ≤ (u : Int) := by omega
    have hnd20 : Lib.nDigits u ≤ 20 := by have := Lib.numDigits_eq u hu1 hu64; split at this <;> omega
    have hal : Tryz.prog.arrayLen 131 = 24 := by simp [Program.arrayLen, Tryz.underlying131]
    have hsl : ∀ W, (Instr.sliceAt 131 (.pointer (some ⟨w.heap.size, 0, none⟩)) none (some (.int .i64 (Lib.nDigits u : Int))) none).run Tryz.prog W = .ok (.slice (some ⟨w.heap.size, 0, none⟩) (Lib.nDigits u) 24) W := fun W => by
      rw [run_sliceAt_array_h W 131 ⟨w.heap.size, 0, none⟩ (by simp [Program.arrayLen, Program.elem, Tryz.underlying131]) .i64 (Lib.nDigits u : Int) (by omega) (by rw [hal]; omega)]
      go_simp
    have hH0 := Lib.holds_zero0 w 131 (Lib.nDigits u) (by omega)
    have hfmt := Tryz.internal_strconv_formatBase10 w.heap.size 0 24 u (Array.replicate (Lib.nDigits u) 0) (w.alloc (.cells Lib.zeros24 131)) hH0 (by rw [Array.size_replicate]; exact Lib.lt_pow_nDigits u) hu64 (by rw [Array.size_replicate]; omega)
    rw [Array.size_replicate] at hfmt
    have HH0 := hid hH0
    clear hH0 hal
    go_enter Tryz.func111, Tryz.ntmps111
    go_wp2_with (first
      | (go_at_call 108; refine (Tryz.internal_strconv_numDigits u hu1 hu64 _ (Lib.tabIs_alloc htab _)).mono ?_; rintro e w' ⟨rfl, rfl⟩))
    go_at_call 109
    refine hfmt.mono ?_
    rintro e w' ⟨rfl, k, v', dk, rfl, hF⟩
    have hcv : (convert 75 9 (.slice (some ⟨w.heap.size, 0, none⟩) (Lib.nDigits u) 24)).run Tryz.prog ((putRow (fun (b : UInt8) => Value.int .u8 (b.toNat : Int)) (w.alloc (.cells Lib.zeros24 131)) w.heap.size 0 dk).drewN k) = .ok (.string ⟨(Lib.decDigits u).toArray⟩) ((putRow (fun (b : UInt8) => Value.int .u8 (b.toNat : Int)) (w.alloc (.cells Lib.zeros24 131)) w.heap.size 0 dk).drewN k) := by
      have h := run_convert_bytes_back (P := Tryz.prog) ((putRow (fun (b : UInt8) => Value.int .u8 (b.toNat : Int)) (w.alloc (.cells Lib.zeros24 131)) w.heap.size 0 dk).drewN k) 75 9 5 ⟨w.heap.size, 0, none⟩ 24 (Lib.decDigits u) Tryz.underlying75 Tryz.underlying5 Tryz.underlying9 (fun j hj => by
        rw [Lib.row_is_numeral hF j hj, Lib.add_plain, World.cell?_drewN]
        exact cell?_putRow (fun (b : UInt8) => Value.int .u8 (b.toNat : Int)) _ w.heap.size 0 _ dk HH0.out (by rw [hF.size, Array.size_replicate]) j (by rw [hF.size]; rw [Lib.decDigits_length] at hj; exact hj))
      rw [Lib.decDigits_length] at h
      exact h
    go_wp2
    go_ret
    obtain ⟨os, eo⟩ := Lib.fin_at w (.cells Lib.zeros24 131) dk k 0
    refine ⟨rfl, ?_⟩
    show Ext w ((putRow _ _ _ _ _).drewN k)
    rw [eo]
    exact Lib.below_grow _ w (Nat.le_refl _) k os

set_option maxHeartbeats 400000 in
theorem formatUint_any (u : Nat) (hu64 : u < 18446744073709551616) (w : World) (htab : Ten w) :
    Calls Tryz.prog 96 #[.int .u64 u, .int .i64 10] w fun e w' => e = .returned (.string ⟨(Lib.decDigits u).toArray⟩) ∧ Ext w w' := by
  go_enter Tryz.func96, Tryz.ntmps96
  go_wp2_with fail
  refine (formatUint_in u hu64 w htab).mono ?_
  rintro e w' ⟨rfl, he⟩
  go_wp2_with fail
  go_ret
  exact ⟨rfl, he⟩

set_option maxHeartbeats 400000 in
theorem itoa_any (n : Int) (h0 : -9223372036854775808 ≤ n) (h1 : n ≤ 9223372036854775807) (w : World) (htab : Ten w) :
    Calls Tryz.prog 42 #[.int .i64 n] w fun e w' => e = .returned (.string ⟨(Lib.itoa n).toArray⟩) ∧ Ext w w' := by
  refine (Tryz.strconv_Itoa n h0 h1 w htab).mono ?_
  rintro e w' ⟨rfl, k, os, rfl⟩
  exact ⟨rfl, Lib.below_grow _ w (Nat.le_refl _) k os⟩

end Go.Proofs.YtdiojbgbeeojkaaGreatDoor

/-
  Writing numbers: appendWord.
-/
namespace Go.Proofs.YtdiojbgbeeojkaaGreatDoor
open Go.RowKit

theorem byte_info : (Tryz.prog.info? 5).map (fun i => (i.zero, i.size, i.bytes)) = some (some (.int .u8 0), 1, 1) := by kernel_rfl

theorem new_byte (w : World) (x : UInt8) (n : Int) (hn : (x.toNat : Int) = n) (e : TypeId) : ∀ j u, (byC [x])[j]? = some u → (w.alloc (.cells #[.int .u8 n] e)).cell? ((⟨w.heap.size, 0, none⟩ : Addr).add j) = some u := by
  intro j u hu
  cases j with
  | zero =>
    simp only [byC, List.map_cons, List.map_nil, List.getElem?_cons_zero, Option.some.injEq] at hu
    rw [← hu, hn, Lib.add_plain, World.cell?_alloc_new]
    rfl
  | succ k => simp [byC] at hu

/-- The digits of x as they are written: with all noughts ahead, k times 19 of them; or without. -/
def digs (k : Nat) (fill : Bool) (x : Nat) : List UInt8 := if fill then padD (19 * 2 ^ k) x else Lib.decDigits x

theorem word_of (l : List Nat) (hr : Nrm l) (hv : val l < 10000000000000000000) : l = [] ∨ l = [val l] := by
  have hlen : l.length ≤ 1 := by
    apply lt_len hr
    rw [Nat.pow_one, B64_eq]
    omega
  cases l with
  | nil => exact Or.inl rfl
  | cons x r =>
    have : r = [] := List.eq_nil_of_length_eq_zero (by simpa using hlen)
    subst this
    right; simp [val]

set_option maxHeartbeats 1600000 in
set_option maxRecDepth 100000 in
theorem appendWord_any (v : Value) (bl : List UInt8) (ao : Option Addr) (l : List Nat) (n c : Nat) (fill : Bool) (w : World) (hl : l.length = n) (hs : Seg w ao l) (hr : Nrm l) (hc : n ≤ c) (hv : val l < 10000000000000000000) (ho : Own w 5 v bl) (hb : bl.length ≤ 1000000000) (htab : Ten w) :
    Calls Tryz.prog 74 #[v, .slice ao n c, .bool fill] w fun e w' => ∃ v', e = .returned v' ∧ Own w' 5 v' (bl ++ digs 0 fill (val l)) ∧ Apd w w' v v' := by
  obtain ⟨i0, hi, hz0, hz1, hz2⟩ := info_parts byte_info
  have hwd := word_of l hr hv
  obtain ⟨x, hx⟩ : ∃ x, val l = x := ⟨_, rfl⟩
  rw [hx] at hwd hv ⊢
  have hnd : Lib.nDigits x ≤ 19 := nDigits_le 19 x (by omega) hv
  have hnp := Lib.nDigits_pos x
  have hdl := Lib.decDigits_length x
  have Hfmt := hid (fun wx (h : Ten wx) => formatUint_any x (by omega) wx h)
  have hsz : (⟨(Lib.decDigits x).toArray⟩ : ByteArray).size = Lib.nDigits x := by simp [ByteArray.size, hdl]
  have Hfill : Hid (padD 19 x = List.replicate (19 - Lib.nDigits x) 48 ++ Lib.decDigits x) := padD_fill 19 x hnd
  obtain ⟨D, hD⟩ : ∃ D, Lib.decDigits x = D := ⟨_, rfl⟩
  obtain ⟨nd, hn'⟩ : ∃ nd, Lib.nDigits x = nd := ⟨_, rfl⟩
  rw [hn'] at hnd hnp hdl hsz Hfill
  rw [hD] at hdl hsz Hfill Hfmt
  have Hdig : Hid (∀ k, k ≤ 19 - nd → (k = 0 ∨ fill = true) → ¬ (fill = true ∧ nd + k < 19) → bl ++ List.replicate k 48 ++ D = bl ++ digs 0 fill x) := by
    intro k h1 h2 h3
    unfold digs
    rw [Nat.pow_zero, Nat.mul_one, Hfill.out, hD, List.append_assoc]
    cases fill
    · have : k = 0 := by simpa using h2
      subst this
      rfl
    · have : k = 19 - nd := by simp at h3; omega
      subst this
      rfl
  obtain ⟨S, hS⟩ : ∃ S, (⟨D.toArray⟩ : ByteArray) = S := ⟨_, rfl⟩
  rw [hS] at hsz Hfmt
  have HS := hid hS; have Hdl := hid hdl; have Ho := hid ho; have Hb := hid hb; have Htab := hid htab
  clear hS hdl ho hb htab hD hn' Hfill hv hr
  have ind : (nd : Int) ≤ 19 := by omega
  have hfr : (l = [] ∧ x = 0) ∨ (l = [x] ∧ ∃ b o, ao = some ⟨b, o, none⟩ ∧ w.cell? ⟨b, o, none⟩ = some (.int .u64 (x : Nat))) := by
    rcases hwd with rfl | rfl
    · left; exact ⟨rfl, by simpa [val] using hx.symm⟩
    · right
      refine ⟨rfl, ?_⟩
      rcases hs with ⟨_, h⟩ | ⟨b, o, rfl, _, hcell⟩
      · simp at h
      · have := hcell 0 (by simp)
        exact ⟨b, o, rfl, by simpa using this⟩
  clear hwd hs hx
  rcases hfr with ⟨rfl, rfl⟩ | ⟨rfl, b, o, rfl, hcl⟩
  all_goals
    subst hl
    go_enter Tryz.func74, Tryz.ntmps74
    go_wp2_with fail
    refine (Hfmt.out _ Htab.out).mono ?_
    rintro e w1 ⟨rfl, he1⟩
    go_wp2_with fail
    go_loopw [0, 9] (fun ov iv wr => ∃ k : Nat, k ≤ 19 - nd ∧ (k = 0 ∨ fill = true) ∧ iv = .int .i64 ((nd + k : Nat)) ∧ Own wr 5 ov (bl ++ List.replicate k 48) ∧ Apd w wr v ov) (fun _ iv _ => 19 - (intOf iv).toNat)
    case atStart => exact ⟨0, by omega, Or.inl rfl, by go_num, by simpa using Ho.out.ext he1, Apd.of_ext he1 _⟩
    case round =>
      obtain ⟨k, hk, hkf, rfl, hok, hak⟩ := hrel
      have Hkf := hid hkf
      clear hkf
      by_cases hgo : fill = true ∧ nd + k < 19
      · obtain ⟨rfl, hlt⟩ := hgo
        have ik : (nd : Int) + (k : Int) < 19 := by omega
        have hbk := Hb.out
        go_wp2_with (at_builtin; refine wpList_append_bytes _ rfl _ _ 75 rfl 5 i0 Tryz.underlying75 hi hz0 hz1 hz2 _ (bl ++ List.replicate k 48) rfl (hok.ext (Ext.alloc _ _)) ⟨wr.heap.size, 0, none⟩ 1 1 [48] rfl rfl (by omega) (new_byte wr 48 48 rfl _) (by simp; omega) ?_; intro v' w' hown' hap')
        go_roundw
        case rel => exact ⟨k + 1, by omega, by simp, by go_num, by rw [List.replicate_succ', ← List.append_assoc]; exact hown', hak.trans ((Apd.of_ext (Ext.alloc _ _) _).trans hap')⟩
        case measure => simp [intOf]; omega
      · have Hfin := hid (Hdig.out k hk Hkf.out hgo)
        have hbk := Hb.out
        have hdk := Hdl.out
        cases fill
        case' true => have ik : ¬ (nd : Int) + (k : Int) < 19 := by simp at hgo; omega
        all_goals
          clear hgo
          go_wp2_with (at_builtin; refine wpList_append_text _ rfl _ _ 75 9 rfl 5 i0 Tryz.underlying75 Tryz.underlying9 hi hz0 hz1 hz2 _ (bl ++ List.replicate k 48) rfl hok D (by rw [HS.out]; rfl) (by omega) (by simp; omega) ?_; intro v' w' hown' hap')
          go_ret
          exact ⟨v', rfl, by rw [← Hfin.out]; exact hown', hak.trans hap'⟩

end Go.Proofs.YtdiojbgbeeojkaaGreatDoor

/-
  Writing numbers: appendDigits, by halves.
-/
namespace Go.Proofs.YtdiojbgbeeojkaaGreatDoor
open Go.RowKit

/-- Ten to the 19, squared k times. -/
def Pw (k : Nat) : Nat := 10 ^ (19 * 2 ^ k)
theorem Pw_pos (k : Nat) : 0 < Pw k := Nat.pow_pos (by decide)
theorem Pw_zero : Pw 0 = 10000000000000000000 := by decide
theorem Pw_succ (k : Nat) : Pw (k + 1) = Pw k * Pw k := by
  unfold Pw
  rw [← Nat.pow_add, Nat.pow_succ]
  congr 1
  omega
theorem Pw_lt (k : Nat) : Pw k < B64 ^ (2 ^ k) := by
  induction k with
  | zero => rw [Pw_zero, Nat.pow_zero, Nat.pow_one, B64_eq]; omega
  | succ k ih =>
    rw [Pw_succ, Nat.pow_succ, Nat.mul_two, Nat.pow_add]
    exact Nat.mul_lt_mul'' ih ih

theorem digs_split (k x : Nat) (fill : Bool) (h : fill = true ∨ 0 < x / Pw k) : digs (k + 1) fill x = digs k fill (x / Pw k) ++ digs k true (x % Pw k) := by
  have e : 19 * 2 ^ (k + 1) = 19 * 2 ^ k + 19 * 2 ^ k := by rw [Nat.pow_succ]; omega
  unfold digs
  cases fill
  · have hp : 0 < x / Pw k := by simpa using h
    simp only [Bool.false_eq_true, if_false, if_true]
    exact decDigits_append _ _ hp
  · simp only [if_true]
    rw [e]
    exact padD_append _ _ _
theorem digs_low (k x : Nat) : digs (k + 1) false x = digs k false x := rfl

theorem digs_len (k x : Nat) (fill : Bool) (h : x < Pw k) : (digs k fill x).length ≤ 19 * 2 ^ k := by
  unfold digs
  cases fill
  · simp only [Bool.false_eq_true, if_false]
    rw [Lib.decDigits_length]
    exact nDigits_le _ _ (by have : 0 < 2 ^ k := Nat.pow_pos (by decide); omega) h
  · simp only [if_true]
    rw [padD_length]
    exact Nat.le_refl _

/-- The powers lie in a row. -/
def Pows (w : World) (po : Option Addr) (k : Nat) : Prop :=
  k = 0 ∨ ∃ b, po = some ⟨b, 0, none⟩ ∧ ∀ t, t < k → ∃ v, w.cell? ⟨b, t, none⟩ = some v ∧ Num w v (Pw t)

theorem Num.isSlice {w : World} {v : Value} {x : Nat} (h : Num w v x) : ∃ a n c, v = .slice a n c := by
  obtain ⟨a, l, c, rfl, _⟩ := h
  exact ⟨_, _, _, rfl⟩

theorem Num.keep {w w' : World} {v : Value} {x : Nat} (h : Num w v x) (k : ∀ ao l, Seg w ao l → Seg w' ao l) : Num w' v x := by
  obtain ⟨a, l, c, rfl, h1, h2, h3, h4⟩ := h
  exact ⟨a, l, c, rfl, h1, h2, k _ _ h3, h4⟩

theorem Pows.ext {w w' : World} {po : Option Addr} {k : Nat} (h : Pows w po k) (he : Ext w w') : Pows w' po k := by
  rcases h with h | ⟨b, rfl, h⟩
  · exact Or.inl h
  · refine Or.inr ⟨b, rfl, fun t ht => ?_⟩
    obtain ⟨v, h1, h2⟩ := h t ht
    exact ⟨v, (he.cell (p := ⟨b, t, none⟩) (World.block_lt_of_cell? w ⟨b, t, none⟩ h1)).trans h1, h2.ext he⟩

theorem Pows.apd {w w' : World} {e : TypeId} {v v' : Value} {l : List UInt8} {po : Option Addr} {k : Nat} (h : Pows w po k) (ho : Own w e v l) (ha : Apd w w' v v') : Pows w' po k := by
  rcases h with h | ⟨b, rfl, h⟩
  · exact Or.inl h
  · refine Or.inr ⟨b, rfl, fun t ht => ?_⟩
    obtain ⟨u, h1, h2⟩ := h t ht
    refine ⟨u, ha.cell ho h1 ?_, h2.keep (fun _ _ hs => hs.apd ho ha)⟩
    obtain ⟨a, n, c, rfl⟩ := h2.isSlice
    intro x hx
    cases hx

theorem Pows.less {w : World} {po : Option Addr} {k : Nat} (h : Pows w po (k + 1)) : Pows w po k := by
  rcases h with h | ⟨b, rfl, h⟩
  · exact absurd h (by omega)
  · exact Or.inr ⟨b, rfl, fun t ht => h t (by omega)⟩

theorem pow10_ne : Lib.pow10Tab ≠ [] := by
  intro h
  have := Lib.pow10Tab_length
  rw [h] at this
  simp at this

set_option maxHeartbeats 1600000 in
set_option maxRecDepth 100000 in
theorem appendDigits_any (k : Nat) : ∀ (v : Value) (bl : List UInt8) (ao po : Option Addr) (l : List Nat) (n c cap : Nat) (fill : Bool) (w : World), l.length = n → Seg w ao l → Dig l → Nrm l → n ≤ c → c ≤ maxLen → n ≤ 16777216 → Hid (val l < Pw k) → k ≤ 20 → k ≤ cap → cap ≤ maxLen → Pows w po k → Own w 5 v bl → Hid (bl.length + 19 * 2 ^ k ≤ 1000000000) → Ten w →
    Calls Tryz.prog 44 #[v, .slice ao n c, .slice po k cap, .bool fill] w fun e w' => ∃ v', e = .returned v' ∧ Own w' 5 v' (bl ++ digs k fill (val l)) ∧ Apd w w' v v' := by
  induction k with
  | zero =>
    intro v bl ao po l n c cap fill w hl hs hd hr hc hcm hn Hv hk hcap hcapm hp ho Hb htab
    have Hl := hid hl; have Hs := hid hs; have Ho := hid ho; have Htab := hid htab; have Hr := hid hr
    clear hl hs hd hr hp ho htab
    go_enter Tryz.func44, Tryz.ntmps44
    go_wp2_with fail
    refine (appendWord_any v bl ao l n c fill w Hl.out Hs.out Hr.out hc (by have := Hv.out; rw [Pw_zero] at this; exact this) Ho.out (by have := Hb.out; omega) Htab.out).mono ?_
    rintro e w1 ⟨v', rfl, ho', ha'⟩
    go_wp2_with fail
    go_ret
    exact ⟨v', rfl, ho', ha'⟩
  | succ k ih =>
    intro v bl ao po l n c cap fill w hl hs hd hr hc hcm hn Hv hk hcap hcapm hp ho Hb htab
    have Ih := hid ih
    clear ih
    have Hp := hid hp.less
    rcases hp with hp | ⟨b, rfl, hp⟩
    · exact absurd hp (by omega)
    obtain ⟨pv, hpc, hpn⟩ := hp k (by omega)
    obtain ⟨a2, l2, n2, c2, rfl, hl2, hn2, hc2, hs2, hd2, hr2, hv2⟩ := hpn.named
    have hn2b : n2 ≤ 1048576 := by
      rw [← hl2]
      have h1 : l2.length ≤ 2 ^ k := lt_len hr2 (by rw [hv2]; exact Pw_lt k)
      have h2 : (2 : Nat) ^ k ≤ 2 ^ 20 := Nat.pow_le_pow_right (by decide) (by omega)
      omega
    have hn21 : 1 ≤ n2 := by
      rw [← hl2]
      cases l2 with
      | nil => have := Pw_pos k; rw [← hv2] at this; simp [val] at this
      | cons x r => simp
    have Hdiv := hid (fun wx (hx : Ext w wx) => divWords_any ao a2 l l2 n2 n c c2 wx hl hl2 (hs.ext hx) (hs2.ext hx) hd hd2 hr hr2 hc hn2 hcm hn21 hn (by omega))
    have Hhi : Hid (val l / val l2 < Pw k) := by
      show _ < _
      rw [hv2, Nat.div_lt_iff_lt_mul (Pw_pos k), ← Pw_succ]; exact Hv.out
    have Hlo : Hid (val l % val l2 < Pw k) := by
      show _ < _
      rw [hv2]; exact Nat.mod_lt _ (Pw_pos k)
    have Hv2 := hid hv2
    obtain ⟨hi, hhi⟩ : ∃ hi, val l / val l2 = hi := ⟨_, rfl⟩
    obtain ⟨lo, hlo⟩ : ∃ lo, val l % val l2 = lo := ⟨_, rfl⟩
    rw [hhi, hlo] at Hdiv
    rw [hhi] at Hhi
    rw [hlo] at Hlo
    have Hsame : Hid (hi = 0 → lo = val l) := by
      intro h0
      rw [← hlo]
      apply Nat.mod_eq_of_lt
      have hp2 : 0 < val l2 := by rw [hv2]; exact Pw_pos k
      rw [← hhi] at h0
      exact (Nat.div_eq_zero_iff_lt hp2).1 h0
    have Hsp : Hid ((fill = true ∨ 0 < hi) → digs (k + 1) fill (val l) = digs k fill hi ++ digs k true lo) := by
      intro h
      rw [← hhi, ← hlo, hv2]
      exact digs_split k (val l) fill (by rw [← hv2, hhi]; exact h)
    have hhb : hi < B64 ^ 1048576 → True := fun _ => trivial
    clear hhb
    have hpw2 : (2 : Nat) ^ k ≤ 1048576 := by
      have h2 : (2 : Nat) ^ k ≤ 2 ^ 20 := Nat.pow_le_pow_right (by decide) (by omega)
      omega
    have Hpw2 := hid hpw2
    have Hbk : Hid (bl.length + 19 * 2 ^ k + 19 * 2 ^ k ≤ 1000000000) := by
      have := Hb.out
      rw [Nat.pow_succ] at this
      show _ ≤ _
      omega
    have Ho := hid ho; have Htab := hid htab
    clear hp hpn hs hd hr hl hs2 hd2 hr2 hv2 hl2 hhi hlo ho htab Hb Hv hpw2
    have ik : (k : Int) + 1 - 1 = (k : Int) := by omega
    have ik2 : (0 : Int) ≤ (k : Int) := by omega
    have icap : (k : Int) ≤ (cap : Int) := by omega
    have ilt : (k : Int) < (k : Int) + 1 := by omega
    go_enter Tryz.func44, Tryz.ntmps44
    go_wp2_with fail
    refine (Hdiv.out _ (Ext.refl _)).mono ?_
    rintro e w1 ⟨v1, v2, rfl, hq, hrm, he1⟩
    obtain ⟨a5, l5, n5, c5, rfl, hl5, hn5, hc5, hs5, hd5, hr5, hv5⟩ := hq.named
    obtain ⟨a6, l6, n6, c6, rfl, hl6, hn6, hc6, hs6, hd6, hr6, hv6⟩ := hrm.named
    have hb5 : n5 ≤ 1048576 := by
      rw [← hl5]
      exact Nat.le_trans (lt_len hr5 (by rw [hv5]; exact Nat.lt_trans Hhi.out (Pw_lt k))) Hpw2.out
    have hb6 : n6 ≤ 1048576 := by
      rw [← hl6]
      exact Nat.le_trans (lt_len hr6 (by rw [hv6]; exact Nat.lt_trans Hlo.out (Pw_lt k))) Hpw2.out
    have hzero : n5 = 0 ↔ hi = 0 := by
      rw [← hl5, ← hv5]
      constructor
      · intro h; have : l5 = [] := List.eq_nil_of_length_eq_zero h; subst this; rfl
      · intro h
        cases h5 : l5 with
        | nil => rfl
        | cons x r =>
          have h7 := hr5.ge (by rw [h5]; simp)
          have h8 : 0 < B64 ^ (l5.length - 1) := Nat.pow_pos B64_pos
          omega
    have Hzero := hid hzero
    have Ho1 := hid (Ho.out.ext he1)
    have Hc5 := hid (fun fl => Ih.out v bl a5 (some ⟨b, 0, none⟩) l5 n5 c5 cap fl w1 hl5 hs5 hd5 hr5 hn5 hc5 (by omega) (hid (by rw [hv5]; exact Hhi.out)) (by omega) (by omega) hcapm (Hp.out.ext he1) Ho1.out (hid (by have := Hbk.out; omega)) (tab_ext Htab.out he1))
    have Hc6 := hid (fun v bl fl wx (h1 : Seg wx a6 l6) (h2 : Pows wx (some ⟨b, 0, none⟩) k) (h3 : Own wx 5 v bl) (h4 : bl.length + 19 * 2 ^ k ≤ 1000000000) (h5 : Ten wx) => Ih.out v bl a6 (some ⟨b, 0, none⟩) l6 n6 c6 cap fl wx hl6 h1 hd6 hr6 hn6 hc6 (by omega) (hid (by rw [hv6]; exact Hlo.out)) (by omega) (by omega) hcapm h2 h3 (hid h4) h5)
    rw [hv5] at Hc5
    rw [hv6] at Hc6
    have Hs6 := hid hs6
    clear hzero hq hrm hl5 hn5 hc5 hs5 hd5 hr5 hv5 hl6 hn6 hc6 hs6 hd6 hr6 hv6
    by_cases hA : n5 = 0 ∧ fill = false
    · obtain ⟨rfl, rfl⟩ := hA
      have hh0 := Hzero.out.1 rfl
      go_wp2_with fail
      refine (Hc6.out v bl false w1 Hs6.out (Hp.out.ext he1) Ho1.out (by have := Hbk.out; omega) (tab_ext Htab.out he1)).mono ?_
      rintro e w2 ⟨v', rfl, ho', ha'⟩
      go_wp2_with fail
      go_ret
      exact ⟨v', rfl, by rw [digs_low, ← Hsame.out hh0]; exact ho', (Apd.of_ext he1 _).trans ha'⟩
    · have Hsp2 := hid (Hsp.out (by
        cases fill
        · right
          have : n5 ≠ 0 := fun h => hA ⟨h, rfl⟩
          have h9 : hi ≠ 0 := fun h => this (Hzero.out.2 h)
          omega
        · exact Or.inl rfl))
      have hcase : (fill = true ∧ n5 = 0) ∨ (((n5 : Int) == 0) = false) := by
        by_cases h0 : n5 = 0
        · left; refine ⟨?_, h0⟩
          cases fill
          · exact absurd ⟨h0, rfl⟩ hA
          · rfl
        · right; rw [beq_eq_false_iff_ne]; omega
      have hlen5 := digs_len k hi fill Hhi.out
      have Hlen5 := hid hlen5
      clear hA hlen5
      rcases hcase with ⟨rfl, rfl⟩ | hne
      all_goals
        go_wp2_with fail
        refine (Hc5.out _).mono ?_
        rintro e w2 ⟨v2, rfl, ho2, ha2⟩
        go_wp2_with fail
        refine (Hc6.out v2 _ true w2 (Hs6.out.apd Ho1.out ha2) ((Hp.out.ext he1).apd Ho1.out ha2) ho2 (by rw [List.length_append]; have := Hbk.out; have := Hlen5.out; omega) (tab_apd (tab_ext Htab.out he1) pow10_ne Ho1.out ha2)).mono ?_
        rintro e w3 ⟨v3, rfl, ho3, ha3⟩
        go_wp2_with fail
        go_ret
        exact ⟨v3, rfl, by rw [Hsp2.out, ← List.append_assoc]; exact ho3, ((Apd.of_ext he1 _).trans ha2).trans ha3⟩

end Go.Proofs.YtdiojbgbeeojkaaGreatDoor
