/-
  Writing numbers: appendWord. Writing numbers: appendDigits, by halves. Writing numbers: chunkPowers. Writing numbers: Text. What the laws' walks share: bounds, calls whose answers are named, the document's example. The reference's numbers: digits to the base 10000 in slices of ints. What memory holds; zmade.
-/
import Derived.Test.YtnemjllghpijgaaDoorProg
import Derived.Test.YtnemjllghpijgaaDoorRows
import Derived.BigQuiet
import Derived.Deep.Cut
import Derived.Deep.QuietTactic
import Derived.Deep.RegionHeld3
import Derived.Laws.Bits64b
import Derived.Laws.CopyOwn
import Derived.Laws.ResultCell
import Derived.Lib.AppendIntMem
import Derived.Lib.AppendStr
import Derived.Lib.BitFns
import Derived.Lib.Hide
import Derived.Lib.ItoaMem
import Derived.Lib.ItoaNum
import Derived.Lib.Strings
import Derived.Lib.TrailingZeros
import Derived.OwnWalk
import Derived.Shelf.Bits.Mul64
import Derived.Shelf.LaysM
import Derived.Shelf.Small.Bits
import Derived.Shelf.Small.Wraps
import Derived.Shelf.Spec.BitsCarry
import Derived.Shelf.Spec.TrailingZeros
import Derived.Shelf.Strconv.Itoa0
import Derived.Shelf.Strconv.Itoa1
import Derived.Shelf.Strconv.Itoa2
import Derived.Shelf.Strconv.Itoa3
import Derived.WalkKit
import Derived.WalkLawsBesides
import Derived.WalkSpells
import Derived.Test.YtnemjllghpijgaaDoorS00Mem
import Derived.Test.YtnemjllghpijgaaDoorShelf
import Derived.Test.YtnemjllghpijgaaDoorS02ShiftI
import Derived.Test.YtnemjllghpijgaaDoorS03GuessD
import Derived.Test.YtnemjllghpijgaaDoorS04IntB
import Derived.Test.YtnemjllghpijgaaDoorS05IntD
import Derived.Test.YtnemjllghpijgaaDoorS06ParE
import Derived.Test.YtnemjllghpijgaaDoorS07GcB
import Derived.Test.YtnemjllghpijgaaDoorS08TxF
namespace Go.Proofs.YtnemjllghpijgaaDoor
open Go.RowKit

theorem byte_info : (Tryd.prog.info? 5).map (fun i => (i.zero, i.size, i.bytes)) = some (some (.int .u8 0), 1, 1) := by kernel_rfl

theorem new_byte (w : World) (x : UInt8) (n : Int) (hn : (x.toNat : Int) = n) (e : TypeId) : ∀ j u, (byC [x])[j]? = some u → (w.alloc (.cells #[.int .u8 n] e)).cell? ((⟨w.heap.size, 0, none⟩ : Addr).add j) = some u := by
  intro j u hu
  cases j with
  | zero =>
    simp only [byC, List.map_cons, List.map_nil, List.getElem?_cons_zero, Option.some.injEq] at hu
    rw [← hu, hn, Lib.add_plain, World.cell?_alloc_new]
    rfl
  | succ k => simp [byC] at hu

/-- The digits of x as they are written: with all noughts ahead, k times 19 of them; or without. -/
def digs (k : Nat) (fill : Bool) (x : Nat) : List UInt8 := if fill then padD (19 * 2 ^ k) x else Lib.decDigits x

theorem word_of (l : List Nat) (hr : Nrm l) (hv : val l < 10000000000000000000) : l = [] ∨ l = [val l] := by
  have hlen : l.length ≤ 1 := by
    apply lt_len hr
    rw [Nat.pow_one, B64_eq]
    omega
  cases l with
  | nil => exact Or.inl rfl
  | cons x r =>
    have : r = [] := List.eq_nil_of_length_eq_zero (by simpa using hlen)
    subst this
    right; simp [val]

set_option maxHeartbeats 1600000 in
set_option maxRecDepth 100000 in
theorem appendWord_any (v : Value) (bl : List UInt8) (ao : Option Addr) (l : List Nat) (n c : Nat) (fill : Bool) (w : World) (hl : l.length = n) (hs : Seg w ao l) (hr : Nrm l) (hc : n ≤ c) (hv : val l < 10000000000000000000) (ho : Own w 5 v bl) (hb : bl.length ≤ 1000000000) (htab : Ten w) :
    Calls Tryd.prog 58 #[v, .slice ao n c, .bool fill] w fun e w' => ∃ v', e = .returned v' ∧ Own w' 5 v' (bl ++ digs 0 fill (val l)) ∧ Apd w w' v v' := by
  obtain ⟨i0, hi, hz0, hz1, hz2⟩ := info_parts byte_info
  have hwd := word_of l hr hv
  obtain ⟨x, hx⟩ : ∃ x, val l = x := ⟨_, rfl⟩
  rw [hx] at hwd hv ⊢
  have hnd : Lib.nDigits x ≤ 19 := nDigits_le 19 x (by omega) hv
  have hnp := Lib.nDigits_pos x
  have hdl := Lib.decDigits_length x
  have Hfmt := hid (fun wx (h : Ten wx) => formatUint_any x (by omega) wx h)
  have hsz : (⟨(Lib.decDigits x).toArray⟩ : ByteArray).size = Lib.nDigits x := by simp [ByteArray.size, hdl]
  have Hfill : Hid (padD 19 x = List.replicate (19 - Lib.nDigits x) 48 ++ Lib.decDigits x) := padD_fill 19 x hnd
  obtain ⟨D, hD⟩ : ∃ D, Lib.decDigits x = D := ⟨_, rfl⟩
  obtain ⟨nd, hn'⟩ : ∃ nd, Lib.nDigits x = nd := ⟨_, rfl⟩
  rw [hn'] at hnd hnp hdl hsz Hfill
  rw [hD] at hdl hsz Hfill Hfmt
  have Hdig : Hid (∀ k, k ≤ 19 - nd → (k = 0 ∨ fill = true) → ¬ (fill = true ∧ nd + k < 19) → bl ++ List.replicate k 48 ++ D = bl ++ digs 0 fill x) := by
    intro k h1 h2 h3
    unfold digs
    rw [Nat.pow_zero, Nat.mul_one, Hfill.out, hD, List.append_assoc]
    cases fill
    · have : k = 0 := by simpa using h2
      subst this
      rfl
    · have : k = 19 - nd := by simp at h3; omega
      subst this
      rfl
  obtain ⟨S, hS⟩ : ∃ S, (⟨D.toArray⟩ : ByteArray) = S := ⟨_, rfl⟩
  rw [hS] at hsz Hfmt
  have HS := hid hS; have Hdl := hid hdl; have Ho := hid ho; have Hb := hid hb; have Htab := hid htab
  clear hS hdl ho hb htab hD hn' Hfill hv hr
  have ind : (nd : Int) ≤ 19 := by omega
  have hfr : (l = [] ∧ x = 0) ∨ (l = [x] ∧ ∃ b o, ao = some ⟨b, o, none⟩ ∧ w.cell? ⟨b, o, none⟩ = some (.int .u64 (x : Nat))) := by
    rcases hwd with rfl | rfl
    · left; exact ⟨rfl, by simpa [val] using hx.symm⟩
    · right
      refine ⟨rfl, ?_⟩
      rcases hs with ⟨_, h⟩ | ⟨b, o, rfl, _, hcell⟩
      · simp at h
      · have := hcell 0 (by simp)
        exact ⟨b, o, rfl, by simpa using this⟩
  clear hwd hs hx
  rcases hfr with ⟨rfl, rfl⟩ | ⟨rfl, b, o, rfl, hcl⟩
  all_goals
    subst hl
    go_enter Tryd.func58, Tryd.ntmps58
    go_wp2_with fail
    refine (Hfmt.out _ Htab.out).mono ?_
    rintro e w1 ⟨rfl, he1⟩
    go_wp2_with fail
    go_loopw [0, 9] (fun ov iv wr => ∃ k : Nat, k ≤ 19 - nd ∧ (k = 0 ∨ fill = true) ∧ iv = .int .i64 ((nd + k : Nat)) ∧ Own wr 5 ov (bl ++ List.replicate k 48) ∧ Apd w wr v ov) (fun _ iv _ => 19 - (intOf iv).toNat)
    case atStart => exact ⟨0, by omega, Or.inl rfl, by go_num, by simpa using Ho.out.ext he1, Apd.of_ext he1 _⟩
    case round =>
      obtain ⟨k, hk, hkf, rfl, hok, hak⟩ := hrel
      have Hkf := hid hkf
      clear hkf
      by_cases hgo : fill = true ∧ nd + k < 19
      · obtain ⟨rfl, hlt⟩ := hgo
        have ik : (nd : Int) + (k : Int) < 19 := by omega
        have hbk := Hb.out
        go_wp2_with (at_builtin; refine wpList_append_bytes _ rfl _ _ 63 rfl 5 i0 Tryd.underlying63 hi hz0 hz1 hz2 _ (bl ++ List.replicate k 48) rfl (hok.ext (Ext.alloc _ _)) ⟨wr.heap.size, 0, none⟩ 1 1 [48] rfl rfl (by omega) (new_byte wr 48 48 rfl _) (by simp; omega) ?_; intro v' w' hown' hap')
        go_roundw
        case rel => exact ⟨k + 1, by omega, by simp, by go_num, by rw [List.replicate_succ', ← List.append_assoc]; exact hown', hak.trans ((Apd.of_ext (Ext.alloc _ _) _).trans hap')⟩
        case measure => simp [intOf]; omega
      · have Hfin := hid (Hdig.out k hk Hkf.out hgo)
        have hbk := Hb.out
        have hdk := Hdl.out
        cases fill
        case' true => have ik : ¬ (nd : Int) + (k : Int) < 19 := by simp at hgo; omega
        all_goals
          clear hgo
          go_wp2_with (at_builtin; refine wpList_append_text _ rfl _ _ 63 9 rfl 5 i0 Tryd.underlying63 Tryd.underlying9 hi hz0 hz1 hz2 _ (bl ++ List.replicate k 48) rfl hok D (by rw [HS.out]; rfl) (by omega) (by simp; omega) ?_; intro v' w' hown' hap')
          go_ret
          exact ⟨v', rfl, by rw [← Hfin.out]; exact hown', hak.trans hap'⟩

end Go.Proofs.YtnemjllghpijgaaDoor
namespace Go.Proofs.YtnemjllghpijgaaDoor
open Go.RowKit

/-- Ten to the 19, squared k times. -/
def Pw (k : Nat) : Nat := 10 ^ (19 * 2 ^ k)
theorem Pw_pos (k : Nat) : 0 < Pw k := Nat.pow_pos (by decide)
theorem Pw_zero : Pw 0 = 10000000000000000000 := by decide
theorem Pw_succ (k : Nat) : Pw (k + 1) = Pw k * Pw k := by
  unfold Pw
  rw [← Nat.pow_add, Nat.pow_succ]
  congr 1
  omega
theorem Pw_lt (k : Nat) : Pw k < B64 ^ (2 ^ k) := by
  induction k with
  | zero => rw [Pw_zero, Nat.pow_zero, Nat.pow_one, B64_eq]; omega
  | succ k ih =>
    rw [Pw_succ, Nat.pow_succ, Nat.mul_two, Nat.pow_add]
    exact Nat.mul_lt_mul'' ih ih

theorem digs_split (k x : Nat) (fill : Bool) (h : fill = true ∨ 0 < x / Pw k) : digs (k + 1) fill x = digs k fill (x / Pw k) ++ digs k true (x % Pw k) := by
  have e : 19 * 2 ^ (k + 1) = 19 * 2 ^ k + 19 * 2 ^ k := by rw [Nat.pow_succ]; omega
  unfold digs
  cases fill
  · have hp : 0 < x / Pw k := by simpa using h
    simp only [Bool.false_eq_true, if_false, if_true]
    exact decDigits_append _ _ hp
  · simp only [if_true]
    rw [e]
    exact padD_append _ _ _
theorem digs_low (k x : Nat) : digs (k + 1) false x = digs k false x := rfl

theorem digs_len (k x : Nat) (fill : Bool) (h : x < Pw k) : (digs k fill x).length ≤ 19 * 2 ^ k := by
  unfold digs
  cases fill
  · simp only [Bool.false_eq_true, if_false]
    rw [Lib.decDigits_length]
    exact nDigits_le _ _ (by have : 0 < 2 ^ k := Nat.pow_pos (by decide); omega) h
  · simp only [if_true]
    rw [padD_length]
    exact Nat.le_refl _

/-- The powers lie in a row. -/
def Pows (w : World) (po : Option Addr) (k : Nat) : Prop :=
  k = 0 ∨ ∃ b, po = some ⟨b, 0, none⟩ ∧ ∀ t, t < k → ∃ v, w.cell? ⟨b, t, none⟩ = some v ∧ Num w v (Pw t)

theorem Num.isSlice {w : World} {v : Value} {x : Nat} (h : Num w v x) : ∃ a n c, v = .slice a n c := by
  obtain ⟨a, l, c, rfl, _⟩ := h
  exact ⟨_, _, _, rfl⟩

theorem Num.keep {w w' : World} {v : Value} {x : Nat} (h : Num w v x) (k : ∀ ao l, Seg w ao l → Seg w' ao l) : Num w' v x := by
  obtain ⟨a, l, c, rfl, h1, h2, h3, h4⟩ := h
  exact ⟨a, l, c, rfl, h1, h2, k _ _ h3, h4⟩

theorem Pows.ext {w w' : World} {po : Option Addr} {k : Nat} (h : Pows w po k) (he : Ext w w') : Pows w' po k := by
  rcases h with h | ⟨b, rfl, h⟩
  · exact Or.inl h
  · refine Or.inr ⟨b, rfl, fun t ht => ?_⟩
    obtain ⟨v, h1, h2⟩ := h t ht
    exact ⟨v, (he.cell (p := ⟨b, t, none⟩) (World.block_lt_of_cell? w ⟨b, t, none⟩ h1)).trans h1, h2.ext he⟩

theorem Pows.apd {w w' : World} {e : TypeId} {v v' : Value} {l : List UInt8} {po : Option Addr} {k : Nat} (h : Pows w po k) (ho : Own w e v l) (ha : Apd w w' v v') : Pows w' po k := by
  rcases h with h | ⟨b, rfl, h⟩
  · exact Or.inl h
  · refine Or.inr ⟨b, rfl, fun t ht => ?_⟩
    obtain ⟨u, h1, h2⟩ := h t ht
    refine ⟨u, ha.cell ho h1 ?_, h2.keep (fun _ _ hs => hs.apd ho ha)⟩
    obtain ⟨a, n, c, rfl⟩ := h2.isSlice
    intro x hx
    cases hx

theorem Pows.less {w : World} {po : Option Addr} {k : Nat} (h : Pows w po (k + 1)) : Pows w po k := by
  rcases h with h | ⟨b, rfl, h⟩
  · exact absurd h (by omega)
  · exact Or.inr ⟨b, rfl, fun t ht => h t (by omega)⟩

theorem pow10_ne : Lib.pow10Tab ≠ [] := by
  intro h
  have := Lib.pow10Tab_length
  rw [h] at this
  simp at this

set_option maxHeartbeats 1600000 in
set_option maxRecDepth 100000 in
theorem appendDigits_any (k : Nat) : ∀ (v : Value) (bl : List UInt8) (ao po : Option Addr) (l : List Nat) (n c cap : Nat) (fill : Bool) (w : World), l.length = n → Seg w ao l → Dig l → Nrm l → n ≤ c → c ≤ maxLen → n ≤ 16777216 → Hid (val l < Pw k) → k ≤ 20 → k ≤ cap → cap ≤ maxLen → Pows w po k → Own w 5 v bl → Hid (bl.length + 19 * 2 ^ k ≤ 1000000000) → Ten w →
    Calls Tryd.prog 35 #[v, .slice ao n c, .slice po k cap, .bool fill] w fun e w' => ∃ v', e = .returned v' ∧ Own w' 5 v' (bl ++ digs k fill (val l)) ∧ Apd w w' v v' := by
  induction k with
  | zero =>
    intro v bl ao po l n c cap fill w hl hs hd hr hc hcm hn Hv hk hcap hcapm hp ho Hb htab
    have Hl := hid hl; have Hs := hid hs; have Ho := hid ho; have Htab := hid htab; have Hr := hid hr
    clear hl hs hd hr hp ho htab
    go_enter Tryd.func35, Tryd.ntmps35
    go_wp2_with fail
    refine (appendWord_any v bl ao l n c fill w Hl.out Hs.out Hr.out hc (by have := Hv.out; rw [Pw_zero] at this; exact this) Ho.out (by have := Hb.out; omega) Htab.out).mono ?_
    rintro e w1 ⟨v', rfl, ho', ha'⟩
    go_wp2_with fail
    go_ret
    exact ⟨v', rfl, ho', ha'⟩
  | succ k ih =>
    intro v bl ao po l n c cap fill w hl hs hd hr hc hcm hn Hv hk hcap hcapm hp ho Hb htab
    have Ih := hid ih
    clear ih
    have Hp := hid hp.less
    rcases hp with hp | ⟨b, rfl, hp⟩
    · exact absurd hp (by omega)
    obtain ⟨pv, hpc, hpn⟩ := hp k (by omega)
    obtain ⟨a2, l2, n2, c2, rfl, hl2, hn2, hc2, hs2, hd2, hr2, hv2⟩ := hpn.named
    have hn2b : n2 ≤ 1048576 := by
      rw [← hl2]
      have h1 : l2.length ≤ 2 ^ k := lt_len hr2 (by rw [hv2]; exact Pw_lt k)
      have h2 : (2 : Nat) ^ k ≤ 2 ^ 20 := Nat.pow_le_pow_right (by decide) (by omega)
      omega
    have hn21 : 1 ≤ n2 := by
      rw [← hl2]
      cases l2 with
      | nil => have := Pw_pos k; rw [← hv2] at this; simp [val] at this
      | cons x r => simp
    have Hdiv := hid (fun wx (hx : Ext w wx) => divWords_any ao a2 l l2 n2 n c c2 wx hl hl2 (hs.ext hx) (hs2.ext hx) hd hd2 hr hr2 hc hn2 hcm hn21 hn (by omega))
    have Hhi : Hid (val l / val l2 < Pw k) := by
      show _ < _
      rw [hv2, Nat.div_lt_iff_lt_mul (Pw_pos k), ← Pw_succ]; exact Hv.out
    have Hlo : Hid (val l % val l2 < Pw k) := by
      show _ < _
      rw [hv2]; exact Nat.mod_lt _ (Pw_pos k)
    have Hv2 := hid hv2
    obtain ⟨hi, hhi⟩ : ∃ hi, val l / val l2 = hi := ⟨_, rfl⟩
    obtain ⟨lo, hlo⟩ : ∃ lo, val l % val l2 = lo := ⟨_, rfl⟩
    rw [hhi, hlo] at Hdiv
    rw [hhi] at Hhi
    rw [hlo] at Hlo
    have Hsame : Hid (hi = 0 → lo = val l) := by
      intro h0
      rw [← hlo]
      apply Nat.mod_eq_of_lt
      have hp2 : 0 < val l2 := by rw [hv2]; exact Pw_pos k
      rw [← hhi] at h0
      exact (Nat.div_eq_zero_iff_lt hp2).1 h0
    have Hsp : Hid ((fill = true ∨ 0 < hi) → digs (k + 1) fill (val l) = digs k fill hi ++ digs k true lo) := by
      intro h
      rw [← hhi, ← hlo, hv2]
      exact digs_split k (val l) fill (by rw [← hv2, hhi]; exact h)
    have hhb : hi < B64 ^ 1048576 → True := fun _ => trivial
    clear hhb
    have hpw2 : (2 : Nat) ^ k ≤ 1048576 := by
      have h2 : (2 : Nat) ^ k ≤ 2 ^ 20 := Nat.pow_le_pow_right (by decide) (by omega)
      omega
    have Hpw2 := hid hpw2
    have Hbk : Hid (bl.length + 19 * 2 ^ k + 19 * 2 ^ k ≤ 1000000000) := by
      have := Hb.out
      rw [Nat.pow_succ] at this
      show _ ≤ _
      omega
    have Ho := hid ho; have Htab := hid htab
    clear hp hpn hs hd hr hl hs2 hd2 hr2 hv2 hl2 hhi hlo ho htab Hb Hv hpw2
    have ik : (k : Int) + 1 - 1 = (k : Int) := by omega
    have ik2 : (0 : Int) ≤ (k : Int) := by omega
    have icap : (k : Int) ≤ (cap : Int) := by omega
    have ilt : (k : Int) < (k : Int) + 1 := by omega
    go_enter Tryd.func35, Tryd.ntmps35
    go_wp2_with fail
    refine (Hdiv.out _ (Ext.refl _)).mono ?_
    rintro e w1 ⟨v1, v2, rfl, hq, hrm, he1⟩
    obtain ⟨a5, l5, n5, c5, rfl, hl5, hn5, hc5, hs5, hd5, hr5, hv5⟩ := hq.named
    obtain ⟨a6, l6, n6, c6, rfl, hl6, hn6, hc6, hs6, hd6, hr6, hv6⟩ := hrm.named
    have hb5 : n5 ≤ 1048576 := by
      rw [← hl5]
      exact Nat.le_trans (lt_len hr5 (by rw [hv5]; exact Nat.lt_trans Hhi.out (Pw_lt k))) Hpw2.out
    have hb6 : n6 ≤ 1048576 := by
      rw [← hl6]
      exact Nat.le_trans (lt_len hr6 (by rw [hv6]; exact Nat.lt_trans Hlo.out (Pw_lt k))) Hpw2.out
    have hzero : n5 = 0 ↔ hi = 0 := by
      rw [← hl5, ← hv5]
      constructor
      · intro h; have : l5 = [] := List.eq_nil_of_length_eq_zero h; subst this; rfl
      · intro h
        cases h5 : l5 with
        | nil => rfl
        | cons x r =>
          have h7 := hr5.ge (by rw [h5]; simp)
          have h8 : 0 < B64 ^ (l5.length - 1) := Nat.pow_pos B64_pos
          omega
    have Hzero := hid hzero
    have Ho1 := hid (Ho.out.ext he1)
    have Hc5 := hid (fun fl => Ih.out v bl a5 (some ⟨b, 0, none⟩) l5 n5 c5 cap fl w1 hl5 hs5 hd5 hr5 hn5 hc5 (by omega) (hid (by rw [hv5]; exact Hhi.out)) (by omega) (by omega) hcapm (Hp.out.ext he1) Ho1.out (hid (by have := Hbk.out; omega)) (tab_ext Htab.out he1))
    have Hc6 := hid (fun v bl fl wx (h1 : Seg wx a6 l6) (h2 : Pows wx (some ⟨b, 0, none⟩) k) (h3 : Own wx 5 v bl) (h4 : bl.length + 19 * 2 ^ k ≤ 1000000000) (h5 : Ten wx) => Ih.out v bl a6 (some ⟨b, 0, none⟩) l6 n6 c6 cap fl wx hl6 h1 hd6 hr6 hn6 hc6 (by omega) (hid (by rw [hv6]; exact Hlo.out)) (by omega) (by omega) hcapm h2 h3 (hid h4) h5)
    rw [hv5] at Hc5
    rw [hv6] at Hc6
    have Hs6 := hid hs6
    clear hzero hq hrm hl5 hn5 hc5 hs5 hd5 hr5 hv5 hl6 hn6 hc6 hs6 hd6 hr6 hv6
    by_cases hA : n5 = 0 ∧ fill = false
    · obtain ⟨rfl, rfl⟩ := hA
      have hh0 := Hzero.out.1 rfl
      go_wp2_with fail
      refine (Hc6.out v bl false w1 Hs6.out (Hp.out.ext he1) Ho1.out (by have := Hbk.out; omega) (tab_ext Htab.out he1)).mono ?_
      rintro e w2 ⟨v', rfl, ho', ha'⟩
      go_wp2_with fail
      go_ret
      exact ⟨v', rfl, by rw [digs_low, ← Hsame.out hh0]; exact ho', (Apd.of_ext he1 _).trans ha'⟩
    · have Hsp2 := hid (Hsp.out (by
        cases fill
        · right
          have : n5 ≠ 0 := fun h => hA ⟨h, rfl⟩
          have h9 : hi ≠ 0 := fun h => this (Hzero.out.2 h)
          omega
        · exact Or.inl rfl))
      have hcase : (fill = true ∧ n5 = 0) ∨ (((n5 : Int) == 0) = false) := by
        by_cases h0 : n5 = 0
        · left; refine ⟨?_, h0⟩
          cases fill
          · exact absurd ⟨h0, rfl⟩ hA
          · rfl
        · right; rw [beq_eq_false_iff_ne]; omega
      have hlen5 := digs_len k hi fill Hhi.out
      have Hlen5 := hid hlen5
      clear hA hlen5
      rcases hcase with ⟨rfl, rfl⟩ | hne
      all_goals
        go_wp2_with fail
        refine (Hc5.out _).mono ?_
        rintro e w2 ⟨v2, rfl, ho2, ha2⟩
        go_wp2_with fail
        refine (Hc6.out v2 _ true w2 (Hs6.out.apd Ho1.out ha2) ((Hp.out.ext he1).apd Ho1.out ha2) ho2 (by rw [List.length_append]; have := Hbk.out; have := Hlen5.out; omega) (tab_apd (tab_ext Htab.out he1) pow10_ne Ho1.out ha2)).mono ?_
        rintro e w3 ⟨v3, rfl, ho3, ha3⟩
        go_wp2_with fail
        go_ret
        exact ⟨v3, rfl, by rw [Hsp2.out, ← List.append_assoc]; exact ho3, ((Apd.of_ext he1 _).trans ha2).trans ha3⟩

end Go.Proofs.YtnemjllghpijgaaDoor
namespace Go.Proofs.YtnemjllghpijgaaDoor
open Go.RowKit

/-- v is a slice of slices, xs, at the head of a block of its own that holds slices alone. -/
def OwnS (w : World) (e : TypeId) (v : Value) (xs : List Value) : Prop :=
  ∃ g cap cur, v = .slice (some ⟨g, 0, none⟩) xs.length cap ∧ w.heap[g]? = some (.cells cur e (0, 0)) ∧ xs.length ≤ cap ∧ cap ≤ maxLen ∧ cur.size = cap ∧ cur.toList.take xs.length = xs ∧ ∀ u ∈ cur.toList, ∃ a n c, u = .slice a n c

theorem OwnS.ext {w w' : World} {e : TypeId} {v : Value} {xs : List Value} (h : OwnS w e v xs) (k : Ext w w') : OwnS w' e v xs := by
  obtain ⟨g, cap, cur, rfl, hb, rest⟩ := h
  exact ⟨g, cap, cur, rfl, (k.block g (Array.getElem?_eq_some_iff.1 hb).1).trans hb, rest⟩

theorem OwnS.apart {w : World} {e : TypeId} {v : Value} {xs : List Value} (h : OwnS w e v xs) {b o : Nat} {u : Value} (hc : w.cell? ⟨b, o, none⟩ = some u) (hu : ∀ a n c, u ≠ .slice a n c) : some b ≠ v.ownBlock := by
  intro hb
  obtain ⟨g, cap, cur, rfl, hg, _, _, _, _, hall⟩ := h
  simp only [Value.ownBlock, Option.some.injEq] at hb
  subst hb
  rw [cell_of_row w b o cur e (0, 0) hg] at hc
  obtain ⟨a, n, c, hx⟩ := hall u (List.mem_of_getElem? (by rw [Array.getElem?_toList]; exact hc))
  exact hu a n c hx

theorem Seg.apdS {w w' : World} {e : TypeId} {v v' : Value} {xs : List Value} {ao : Option Addr} {la : List Nat} (h : Seg w ao la) (ho : OwnS w e v xs) (k : Apd w w' v v') : Seg w' ao la := by
  rcases h with h | ⟨b, o, rfl, hb, hc⟩
  · exact Or.inl h
  · exact Or.inr ⟨b, o, rfl, Nat.lt_of_lt_of_le hb k.grown.size, fun t ht => k.grown.cell (hc t ht) (ho.apart (hc t ht) (fun a n c hx => by cases hx))⟩

theorem OwnS.cells {w : World} {e : TypeId} {g n cap : Nat} {xs : List Value} (h : OwnS w e (.slice (some ⟨g, 0, none⟩) n cap) xs) (t : Nat) (ht : t < xs.length) : w.cell? ⟨g, t, none⟩ = some xs[t] := by
  obtain ⟨g', cap', cur, hv, hg, _, _, _, htk, _⟩ := h
  simp only [Value.slice.injEq, Option.some.injEq, Addr.mk.injEq, and_true] at hv
  obtain ⟨rfl, _, _⟩ := hv
  rw [cell_of_row w g t cur e (0, 0) hg]
  have h1 : xs[t]? = cur.toList[t]? := by
    rw [← List.getElem?_take_of_lt (l := cur.toList) ht, htk]
  rw [List.getElem?_eq_getElem ht] at h1
  rw [← Array.getElem?_toList, ← h1]

theorem zero_slice (n : Nat) : ∀ u ∈ (Builtin.zeroCells (Value.slice none 0 0).cells n).toList, ∃ a n c, u = .slice a n c := by
  intro u hu
  simp [Builtin.zeroCells, Value.cells, Nat.mod_one] at hu
  exact ⟨none, 0, 0, hu.2.symm⟩

section
variable {P : Program} (w : World)

theorem run_append_row (t ty e : TypeId) (i : TypeInfo) (ht : P.underlying t = some (.slice e)) (hi : P.info? e = some i) (hz : i.zero = some (.slice none 0 0)) (hsize : i.size = 1) (hby : i.bytes = 24)
    (v : Value) (xs : List Value) (hown : OwnS w e v xs) (ad : Addr) (c : Nat) (p : Option Addr) (q r : Nat) (hnew : w.cell? ad = some (.slice p q r)) (hno : ad.add 0 = ad) (hb : xs.length ≤ 1000000) :
    ∃ v' w', (Builtin.append_ #[t, t] ty #[v, .slice (some ad) 1 c]).run P w = .ok v' w' ∧ OwnS w' e v' (xs ++ [.slice p q r]) ∧ Apd w w' v v' := by
  obtain ⟨g, cap, cur, rfl, hg, hlc, hcm, hcs, htk, hall⟩ := hown
  have hl : ([Value.slice p q r] : List Value).length = 1 * i.size := by rw [hsize]; rfl
  have hnews : ∀ j u, ([Value.slice p q r] : List Value)[j]? = some u → w.cell? (ad.add j) = some u := by
    intro j u hu
    cases j with
    | zero =>
      simp only [List.getElem?_cons_zero, Option.some.injEq] at hu
      rw [← hu, hno]; exact hnew
    | succ k => simp at hu
  have h1 : ∀ u ∈ ([Value.slice p q r] : List Value), u.oneCell' = true := by
    intro u hu
    simp only [List.mem_singleton] at hu
    subst hu
    rfl
  by_cases hroom : xs.length + 1 ≤ cap
  · have hr := run_append_room (P := P) w t ty e i ht hi g xs.length cap cur hg ad 1 c _ hl hnews h1 hroom (by rw [hsize, hcs, Nat.mul_one]; exact hroom)
    rw [hsize, Nat.mul_one] at hr
    refine ⟨_, _, hr, ⟨g, cap, _, by simp, setRow_heap w g cur _ e _ hg, by simp; exact hroom, hcm, ?_, ?_, ?_⟩, ⟨⟨rfl, rfl, rfl, by simp, fun k _ hk => setRow_other w g k _ (fun h => hk (by simp [Value.ownBlock, h]))⟩, Or.inl rfl⟩⟩
    · simp only [List.size_toArray, List.length_append, List.length_take, List.length_drop, Array.length_toList, List.length_cons, List.length_nil]
      omega
    · rw [htk]
      exact List.take_left
    · intro u hu
      simp only [List.mem_append, List.mem_singleton] at hu
      rcases hu with (hu | hu) | hu
      · exact hall u (List.mem_of_mem_take hu)
      · exact ⟨_, _, _, hu⟩
      · exact hall u (List.mem_of_mem_drop hu)
  · have holds : ∀ j u, xs[j]? = some u → w.cell? ((⟨g, 0, none⟩ : Addr).add j) = some u := by
      intro j u hu
      rw [Lib.add_plain, cell_of_row w g _ cur e (0, 0) hg, Nat.zero_add]
      rw [← htk, List.getElem?_take] at hu
      split at hu
      · simpa using hu
      · cases hu
    have hr := run_append_grow (P := P) w t ty e i (.slice none 0 0) ht hi hz ⟨g, 0, none⟩ xs.length cap xs (by rw [hsize, Nat.mul_one]) holds ad 1 c _ hl hnews (by omega) (by omega) (by rw [hby]; exact growslice_fits (by omega) (by omega))
    have hge := grownCap_ge w (xs.length + 1) cap e
    have hcm2 : grownCap w (xs.length + 1) cap e ≤ maxLen := grownCap_le_maxLen w _ cap e (by unfold maxLen; omega)
    refine ⟨_, _, hr, ⟨w.heap.size, _, _, by simp, heap_alloc_new w.drew _, by simp; exact hge, hcm2, ?_, ?_, ?_⟩, ⟨⟨rfl, rfl, rfl, by simp, fun k hk _ => Below.heap_alloc w.drew _ k hk⟩, Or.inr ⟨_, rfl, Nat.le_refl _⟩⟩⟩
    · have hz1 : (Value.slice none 0 0).cells.size = 1 := rfl
      simp only [Array.size_append, List.size_toArray, size_zeroCells, hz1, List.length_cons, List.length_nil]
      omega
    · simp only [Array.toList_append]
      exact List.take_left
    · intro u hu
      simp only [Array.toList_append, List.mem_append, List.mem_singleton] at hu
      rcases hu with (hu | hu) | hu
      · rw [← htk] at hu; exact hall u (List.mem_of_mem_take hu)
      · exact ⟨_, _, _, hu⟩
      · exact zero_slice _ u hu

theorem wpList_append_row {ops : Array Oper} {rest : List Oper} {o : Oper} {a : Act} {Q : Exit → Act → World → Prop} (hgd : o.guard = none) (s x : Operand) (t : TypeId)
    (ho : o.op = .call { callee := .builtin .append, args := #[s, x], argTypes := #[t, t] })
    (e : TypeId) (i : TypeInfo) (ht : P.underlying t = some (.slice e)) (hi : P.info? e = some i) (hz : i.zero = some (.slice none 0 0)) (hsize : i.size = 1) (hby : i.bytes = 24)
    (v : Value) (xs : List Value) (hs : a.eval s = v) (hown : OwnS w e v xs) (ad : Addr) (c : Nat) (p : Option Addr) (q r : Nat) (hx : a.eval x = .slice (some ad) 1 c) (hnew : w.cell? ad = some (.slice p q r)) (hno : ad.add 0 = ad) (hb : xs.length ≤ 1000000)
    (h : ∀ v' w', OwnS w' e v' (xs ++ [.slice p q r]) → Apd w w' v v' → wpList P ops Q rest (a.put o.dst v') w') : wpList P ops Q (o :: rest) a w := by
  refine wpList_plain hgd fun _ hK => ?_
  obtain ⟨v', w', hr, h2, h3⟩ := run_append_row (P := P) w t o.type e i ht hi hz hsize hby v xs hown ad c p q r hnew hno hb
  unfold Oper.wp execOp
  simp only [ho, resolve, invoke, builtin, Sem.run_bind, Sem.run_pure, Result.andThen_ok, List.map_toArray, List.map_cons, List.map_nil, hs, hx, hr]
  exact hK _ _ (h v' w' h2 h3)

end

theorem row_info : (Tryd.prog.info? 22).map (fun i => (i.zero, i.size, i.bytes)) = some (some (.slice none 0 0), 1, 24) := by kernel_rfl

theorem Pw_ge (j : Nat) : 2 ^ (63 * 2 ^ j) ≤ Pw j := by
  induction j with
  | zero => rw [Pw_zero]; decide
  | succ k ih =>
    rw [Pw_succ, Nat.pow_succ, ← Nat.mul_assoc, Nat.mul_two, Nat.pow_add]
    exact Nat.mul_le_mul ih ih

/-- The powers are not many. -/
theorem pw_few {j n N : Nat} (h : Pw j < B64 ^ n) (h2 : 2 * n ≤ N + 1) (hN : N ≤ 100000) : j < 16 := by
  apply Nat.lt_of_not_le
  intro hj
  have h3 := Nat.lt_of_le_of_lt (Pw_ge j) h
  rw [B64_two, ← Nat.pow_mul] at h3
  have h4 : 63 * 2 ^ j < 64 * n := (Nat.pow_lt_pow_iff_right (by decide)).1 h3
  have h5 : (2 : Nat) ^ 16 ≤ 2 ^ j := Nat.pow_le_pow_right (by decide) hj
  omega

/-- The powers that stand so far. -/
def PowRow (w : World) (xs : List Value) : Prop := ∀ t, (h : t < xs.length) → Num w xs[t] (Pw t)

theorem PowRow.keep {w w' : World} {xs : List Value} (h : PowRow w xs) (k : ∀ ao l, Seg w ao l → Seg w' ao l) : PowRow w' xs := fun t ht => (h t ht).keep k

theorem PowRow.snoc {w : World} {xs : List Value} {v : Value} (h : PowRow w xs) (hv : Num w v (Pw xs.length)) : PowRow w (xs ++ [v]) := by
  intro t ht
  by_cases h1 : t < xs.length
  · rw [List.getElem_append_left h1]; exact h t h1
  · have ht1 : t = xs.length := by simp at ht; omega
    subst ht1
    rw [List.getElem_append_right (Nat.le_refl _)]
    simpa using hv

theorem pw_enough {n N : Nat} {l : List Nat} {j : Nat} (hl : l.length = n) (hr : Nrm l) (hv : val l = Pw j) (hn : 1 ≤ n) (h : N + 1 < 2 * n) : B64 ^ N ≤ Pw (j + 1) := by
  have h1 := hr.ge (by intro e; subst e; simp at hl; omega)
  rw [hl, hv] at h1
  rw [Pw_succ]
  have h2 : B64 ^ N ≤ B64 ^ ((n - 1) + (n - 1)) := Nat.pow_le_pow_right B64_pos (by omega)
  rw [Nat.pow_add] at h2
  exact Nat.le_trans h2 (Nat.mul_le_mul h1 h1)

set_option maxHeartbeats 1600000 in
set_option maxRecDepth 100000 in
theorem chunkPowers_any (N : Nat) (hN : N ≤ 100000) (w : World) :
    Calls Tryd.prog 36 #[.int .i64 N] w fun e w' => ∃ (k b cap : Nat), e = .returned (.slice (some ⟨b, 0, none⟩) k cap) ∧ k ≤ 20 ∧ k ≤ cap ∧ cap ≤ maxLen ∧ Pows w' (some ⟨b, 0, none⟩) k ∧ Hid (B64 ^ N ≤ Pw k) ∧ Ext w w' := by
  obtain ⟨i0, hi, hz0, hz1, hz2⟩ := info_parts row_info
  have hsn := Seg.new1 w 10000000000000000000 71
  have hE1 := Ext.alloc w (.cells #[.int .u64 (10000000000000000000 : Nat)] 71)
  have hE2 := Ext.alloc (w.alloc (.cells #[.int .u64 (10000000000000000000 : Nat)] 71)) (.cells #[.slice (some ⟨w.heap.size, 0, none⟩) 1 1] 22)
  have hs0 := hsn.ext hE2
  have ho0 : OwnS ((w.alloc (.cells #[.int .u64 (10000000000000000000 : Nat)] 71)).alloc (.cells #[.slice (some ⟨w.heap.size, 0, none⟩) 1 1] 22)) 22 (.slice (some ⟨w.heap.size + 1, 0, none⟩) 1 1) [.slice (some ⟨w.heap.size, 0, none⟩) 1 1] := by
    refine ⟨w.heap.size + 1, 1, #[.slice (some ⟨w.heap.size, 0, none⟩) 1 1], rfl, ?_, by simp, by unfold maxLen; omega, rfl, rfl, ?_⟩
    · have := heap_alloc_new (w.alloc (.cells #[.int .u64 (10000000000000000000 : Nat)] 71)) (.cells #[.slice (some ⟨w.heap.size, 0, none⟩) 1 1] 22)
      simpa using this
    · intro u hu
      simp at hu
      exact ⟨_, _, _, hu⟩
  have hE : Ext w ((w.alloc (.cells #[.int .u64 (10000000000000000000 : Nat)] 71)).alloc (.cells #[.slice (some ⟨w.heap.size, 0, none⟩) 1 1] 22)) := hE1.trans hE2
  have hd0 : Dig [10000000000000000000] := Dig.cons (by rw [B64_eq]; omega) Dig.nil
  have hr0 : Nrm [10000000000000000000] := by unfold Nrm; decide
  have hv0 : val [10000000000000000000] = Pw 0 := by rw [Pw_zero]; simp [val]
  clear hsn hE1 hE2
  go_enter Tryd.func36, Tryd.ntmps36
  go_wp2_with fail
  generalize (w.alloc (.cells #[.int .u64 (10000000000000000000 : Nat)] 71)).alloc (.cells #[.slice (some ⟨w.heap.size, 0, none⟩) 1 1] 22) = W0 at *
  go_loopw [3, 4] (fun lv pv wr => ∃ (j b cap : Nat) (xs : List Value) (ao : Option Addr) (l : List Nat) (n c : Nat), lv = .slice ao n c ∧ pv = .slice (some ⟨b, 0, none⟩) (j + 1) cap ∧ j ≤ 16 ∧ xs.length = j + 1 ∧ OwnS wr 22 pv xs ∧ PowRow wr xs ∧ l.length = n ∧ 1 ≤ n ∧ n ≤ c ∧ c ≤ maxLen ∧ n ≤ 200000 ∧ Seg wr ao l ∧ Dig l ∧ Nrm l ∧ val l = Pw j ∧ Ext w wr ∧ w.heap.size ≤ b)
    (fun _ pv _ => match pv with | .slice _ k _ => 64 - k | _ => 0)
  case atStart =>
    exact ⟨0, w.heap.size + 1, 1, _, _, _, 1, 1, rfl, rfl, by omega, rfl, ho0, (fun t ht => by
      have ht0 : t = 0 := by simpa using ht
      subst ht0
      exact ⟨_, _, 1, rfl, Nat.le_refl _, by unfold maxLen; omega, hs0, hd0, hr0, hv0⟩), rfl, Nat.le_refl _, Nat.le_refl _, by unfold maxLen; omega, by omega, hs0, hd0, hr0, hv0, hE, by omega⟩
  case round =>
    obtain ⟨j, b, cap, xs, ao, l, n, c, rfl, rfl, hj, hxl, hos, hpr, hl, hn1, hnc, hcm, hn2, hsg, hd, hr, hv, hEr, hbw⟩ := hrel
    have Hxl := hid hxl; have Hos := hid hos; have Hpr := hid hpr; have Hl := hid hl; have Hsg := hid hsg; have Hd := hid hd; have Hr := hid hr; have Hv := hid hv
    clear hxl hos hpr hl hsg hd hr hv
    by_cases hgo : 2 * n ≤ N + 1
    · have hj16 : j < 16 := pw_few (n := n) (N := N) (by rw [← Hv.out, ← Hl.out]; exact val_lt Hd.out) hgo hN
      have ig : 2 * (n : Int) - 1 ≤ (N : Int) := by omega
      go_wp2_with fail
      refine (mulOK_all 1000000 (by omega) ao ao l l n n c c wr Hl.out Hl.out Hsg.out Hsg.out Hd.out Hd.out hnc hnc hcm hcm (by omega)).mono ?_
      rintro e w1 ⟨_, rfl, hnum, he1, _⟩
      have hnum' : Num w1 _ (Pw (j + 1)) := hnum.cast (by rw [Hv.out, ← Pw_succ])
      obtain ⟨a5, l5, n5, c5, rfl, hl5, hn5, hc5, hs5, hd5, hr5, hv5⟩ := hnum'.named
      have Hos1 := hid (Hos.out.ext he1); have Hpr1 := hid (Hpr.out.keep (fun _ _ hs => hs.ext he1))
      have hn5b : n5 ≤ 200000 := by
        rw [← hl5]
        refine Nat.le_trans (lt_len (k := n + n) hr5 ?_) (by omega)
        rw [hv5, Pw_succ, ← Hv.out, Nat.pow_add]
        have h1 := val_lt Hd.out
        rw [Hl.out] at h1
        exact Nat.mul_lt_mul'' h1 h1
      have hn51 : 1 ≤ n5 := by
        rw [← hl5]
        cases l5 with
        | nil => have := Pw_pos (j + 1); rw [← hv5] at this; simp [val] at this
        | cons x r => simp
      have Hnum := hid hnum'; have Hl5 := hid hl5; have Hs5 := hid hs5; have Hd5 := hid hd5; have Hr5 := hid hr5; have Hv5 := hid hv5
      have hxl := Hxl.out
      clear hnum hnum' hl5 hs5 hd5 hr5 hv5
      go_wp2_with (at_builtin; refine wpList_append_row _ rfl _ _ 65 rfl 22 i0 Tryd.underlying65 hi hz0 hz1 hz2 (.slice (some ⟨b, 0, none⟩) (j + 1) cap) xs rfl (Hos1.out.ext (Ext.alloc _ _)) ⟨w1.heap.size, 0, none⟩ 1 a5 n5 c5 rfl (by simp) (Lib.add_plain _ _ _) (by omega) ?_; intro v' w' hown' hap')
      have ha1 := Ext.alloc w1 (.cells #[.slice a5 n5 c5] 22)
      have Hkp : Hid (∀ ao l, Seg w1 ao l → Seg w' ao l) := fun _ _ hs => (hs.ext ha1).apdS (Hos1.out.ext ha1) hap'
      obtain ⟨b', cap', cur', rfl, hrest⟩ := hown'
      have hlen' : (xs ++ [Value.slice a5 n5 c5]).length = j + 1 + 1 := by rw [List.length_append, hxl]; rfl
      have hbw' : w.heap.size ≤ b' := by
        rcases hap'.lies with h | ⟨g, h, hg⟩
        · simp [Value.ownBlock] at h; omega
        · simp only [Value.ownBlock, Option.some.injEq] at h
          subst h
          have h1 := hEr.size; have h2 := he1.size; have h3 := ha1.size
          omega
      have hEw : Ext w w' := by
        have h1 := (hEr.trans he1).trans ha1
        refine ⟨hap'.grown.os.trans h1.os, hap'.grown.tape.trans h1.tape, hap'.grown.output.trans h1.output, Nat.le_trans h1.size hap'.grown.size, fun k hk => (hap'.grown.block k (Nat.lt_of_lt_of_le hk h1.size) ?_).trans (h1.block k hk)⟩
        simp only [Value.ownBlock, ne_eq, Option.some.injEq]
        omega
      have hos' : OwnS w' 22 (.slice (some ⟨b', 0, none⟩) (j + 1 + 1) cap') (xs ++ [Value.slice a5 n5 c5]) := ⟨b', cap', cur', by rw [hlen'], hrest⟩
      rw [hlen']
      go_roundw
      case rel => exact ⟨j + 1, b', cap', xs ++ [Value.slice a5 n5 c5], a5, l5, n5, c5, rfl, rfl, by omega, hlen', hos', (Hpr1.out.keep Hkp.out).snoc (by rw [hxl]; exact Hnum.out.keep Hkp.out), Hl5.out, hn51, hn5, hc5, hn5b, Hkp.out _ _ Hs5.out, Hd5.out, Hr5.out, Hv5.out, hEw, hbw'⟩
      case measure => show 64 - (j + 1 + 1) < 64 - (j + 1); omega
    · have ig : ¬ 2 * (n : Int) - 1 ≤ (N : Int) := by omega
      go_wp2_with fail
      go_ret
      have hos := Hos.out
      have hcc : j + 1 ≤ cap ∧ cap ≤ maxLen := by
        obtain ⟨g, cap2, cur, h1, _, h3, h4, _⟩ := hos
        simp only [Value.slice.injEq] at h1
        obtain ⟨_, h5, h6⟩ := h1
        omega
      exact ⟨j + 1, b, cap, rfl, by omega, hcc.1, hcc.2, Or.inr ⟨b, rfl, fun t ht => ⟨_, hos.cells t (by rw [Hxl.out]; exact ht), Hpr.out t (by rw [Hxl.out]; exact ht)⟩⟩, pw_enough Hl.out Hr.out Hv.out hn1 (by omega), hEr⟩

end Go.Proofs.YtnemjllghpijgaaDoor
namespace Go.Proofs.YtnemjllghpijgaaDoor
open Go.RowKit

theorem run_convert_own {w : World} {v : Value} {l : List UInt8} (h : Own w 5 v l) (hl : l ≠ []) : (convert 63 9 v).run Tryd.prog w = .ok (.string ⟨l.toArray⟩) w := by
  rcases h with ⟨_, h⟩ | ⟨g, cap, cur, rfl, hg, _, _, _, htk, _⟩
  · exact absurd h hl
  · refine run_convert_bytes_back (P := Tryd.prog) w 63 9 5 ⟨g, 0, none⟩ cap l Tryd.underlying63 Tryd.underlying5 Tryd.underlying9 (fun j hj => ?_)
    rw [Lib.add_plain, Nat.zero_add, cell_of_row w g j cur _ (0, 0) hg]
    have h1 : (byC l)[j]? = cur.toList[j]? := by
      rw [← htk, List.getElem?_take, if_pos hj]
    rw [← Array.getElem?_toList, ← h1]
    simp [byC, hj]

theorem room20 {k m : Nat} (h : k ≤ 20) (hm : m ≤ 1) : m + 19 * 2 ^ k ≤ 1000000000 := by
  have : (2 : Nat) ^ k ≤ 2 ^ 20 := Nat.pow_le_pow_right (by decide) h
  omega

theorem decDigits_ne (x : Nat) : Lib.decDigits x ≠ [] := by
  intro h
  have := Lib.decDigits_length x
  rw [h] at this
  have := Lib.nDigits_pos x
  simp at *
  omega

set_option maxHeartbeats 1600000 in
set_option maxRecDepth 100000 in
theorem Text_any (sm : Int) (ao : Option Addr) (n c : Nat) (z : Int) (w : World) (h : IsInt w sm ao n c z) (hn : n ≤ 100000) (htab : Ten w) :
    Calls Tryd.prog 9 #[.agg #[.int .i64 sm, .slice ao n c]] w fun e w' => e = .returned (.string ⟨(Lib.itoa z).toArray⟩) ∧ Ext w w' := by
  have q1 := eql_nil ao n c 0 0
  have hEb := Ext.alloc w (.cells #[.int .i64 sm, .slice ao n c] 24)
  rcases h with ⟨rfl, rfl, rfl, rfl, h1, h2⟩ | ⟨b, o, l, rfl, hl, hnc, hcm, hs, hd, hr, hz⟩
  · have Hit := hid (fun wx (hx : Ten wx) => itoa_any sm h1 h2 wx hx)
    have Htab := hid htab
    clear htab
    go_enter Tryd.func9, Tryd.ntmps9
    go_wp2_with fail
    refine (Hit.out _ (tab_ext Htab.out hEb)).mono ?_
    rintro e w1 ⟨rfl, he1⟩
    go_wp2_with fail
    go_ret
    exact ⟨rfl, hEb.trans he1⟩
  · have hno : (some (⟨b, o, none⟩ : Addr)).isNone = false := rfl
    have hsm : sm = -1 ∨ sm = 1 := hz.elim (fun h => Or.inl h.1) (fun h => Or.inr h.1)
    have Hz : Hid (Lib.itoa z = (if sm < 0 then [45] else []) ++ Lib.decDigits (val l)) := by
      show _ = _
      rcases hz with ⟨rfl, rfl, h⟩ | ⟨rfl, rfl, h⟩
      · unfold Lib.itoa
        rw [if_pos (by omega), if_pos (by omega)]
        simp
      · unfold Lib.itoa
        rw [if_neg (by omega), if_neg (by omega)]
        simp
    obtain ⟨i0, hi, hz0, hz1, hz2⟩ := info_parts byte_info
    have Htab := hid htab
    have Hcp := hid (fun wx => chunkPowers_any n hn wx)
    have hvl : val l < B64 ^ n := by rw [← hl]; exact val_lt hd
    have Hvl := hid hvl
    have Had := hid (fun (k : Nat) (v : Value) (bl : List UInt8) (b5 cap : Nat) (wx : World) (h1 : Seg wx (some ⟨b, o, none⟩) l) (h2 : k ≤ 20) (h3 : k ≤ cap) (h4 : cap ≤ maxLen) (h5 : Pows wx (some ⟨b5, 0, none⟩) k) (h6 : Own wx 5 v bl) (h7 : bl.length ≤ 1) (h8 : Ten wx) (h9 : B64 ^ n ≤ Pw k) =>
      appendDigits_any k v bl (some ⟨b, o, none⟩) (some ⟨b5, 0, none⟩) l n c cap false wx hl h1 hd hr hnc hcm (by omega) (hid (Nat.lt_of_lt_of_le hvl h9)) h2 h3 h4 h5 h6 (hid (room20 h2 h7)) h8)
    have hs0 := hs.ext hEb
    have Htb := hid (tab_ext htab hEb)
    have c0 : (w.alloc (.cells #[.int .i64 sm, .slice (some ⟨b, o, none⟩) n c] 24)).cell? ⟨w.heap.size, 0, none⟩ = some (.int .i64 sm) := by simp
    have c1 : (w.alloc (.cells #[.int .i64 sm, .slice (some ⟨b, o, none⟩) n c] 24)).cell? ⟨w.heap.size, 1, none⟩ = some (.slice (some ⟨b, o, none⟩) n c) := by simp
    have hB : w.heap.size < (w.alloc (.cells #[.int .i64 sm, .slice (some ⟨b, o, none⟩) n c] 24)).heap.size := by simp
    clear hz hvl hl hd hr hs htab
    rcases hsm with rfl | rfl
    · have Hz' : Hid (Lib.itoa z = ([] ++ [45]) ++ digs 0 false (val l)) := by
        show _ = _
        rw [Hz.out]; rfl
      go_enter Tryd.func9, Tryd.ntmps9
      go_wp2_with fail
      generalize w.alloc (.cells #[.int .i64 (-1), .slice (some ⟨b, o, none⟩) n c] 24) = W1 at *
      refine (negative_any _ _ W1).mono ?_
      rintro e w2 ⟨rfl, he2⟩
      go_wp2_with (at_builtin; refine wpList_append_bytes _ rfl _ _ 63 rfl 5 i0 Tryd.underlying63 hi hz0 hz1 hz2 (.slice none 0 0) [] rfl (Own.nil _ _) ⟨w2.heap.size, 0, none⟩ 1 1 [45] rfl rfl (by omega) (new_byte w2 45 45 rfl _) (by simp) ?_; intro v3 w3 ho3 ha3)
      have hES : Ext w (w2.alloc (.cells #[.int .u8 45] 5)) := hEb.trans (he2.trans (Ext.alloc _ _))
      have hE3 : Ext W1 w3 := he2.trans ((Ext.alloc _ _).trans ha3.ext)
      have hs3 := hs0.ext hE3
      have Htb3 := hid (tab_ext Htb.out hE3)
      obtain ⟨d0, d1⟩ := keep2 hE3 hB c0 c1
      have hB3 : w.heap.size < w3.heap.size := by have := hE3.size; omega
      have hE0d : Ext w3 w3.drew := Below.drew (Ext.refl _)
      clear c0 c1 hB
      go_region_with (first
        | (go_at_call 36; refine (Hcp.out _).mono ?_; rintro e w5 ⟨k5, b5, cap5, rfl, hk5, hk6, hk7, hp5, hw5, hx5⟩; have he5 : Ext w3 w5 := Ext.trans (by assumption) hx5; have ho5 := ho3.ext he5; obtain ⟨y0, y1⟩ := keep2 he5 hB3 d0 d1)
        | (go_at_call 35; refine (Had.out k5 v3 _ b5 cap5 w5 (hs3.ext he5) hk5 hk6 hk7 hp5 ho5 (by simp) (tab_ext Htb3.out he5) hw5.out).mono ?_; rintro e w6 ⟨v6, rfl, ho6, ha6⟩; have hcv := run_convert_own ho6 (by simp)))
      all_goals
        go_wp2_with fail
        go_ret
        exact ⟨by rw [Hz'.out]; rfl, hES.trans ((ha3.trans (Apd.of_ext he5 _)).trans ha6).ext⟩
    · have Hz' : Hid (Lib.itoa z = [] ++ digs 0 false (val l)) := by
        show _ = _
        rw [Hz.out]; rfl
      go_enter Tryd.func9, Tryd.ntmps9
      go_wp2_with fail
      generalize w.alloc (.cells #[.int .i64 1, .slice (some ⟨b, o, none⟩) n c] 24) = W1 at *
      refine (negative_any _ _ W1).mono ?_
      rintro e w3 ⟨rfl, hE3⟩
      go_wp2_with fail
      have ho3 := Own.nil w3 5
      have hs3 := hs0.ext hE3
      have Htb3 := hid (tab_ext Htb.out hE3)
      obtain ⟨d0, d1⟩ := keep2 hE3 hB c0 c1
      have hB3 : w.heap.size < w3.heap.size := by have := hE3.size; omega
      have hE0d : Ext w3 w3.drew := Below.drew (Ext.refl _)
      clear c0 c1 hB
      go_region_with (first
        | (go_at_call 36; refine (Hcp.out _).mono ?_; rintro e w5 ⟨k5, b5, cap5, rfl, hk5, hk6, hk7, hp5, hw5, hx5⟩; have he5 : Ext w3 w5 := Ext.trans (by assumption) hx5; have ho5 := ho3.ext he5; obtain ⟨y0, y1⟩ := keep2 he5 hB3 d0 d1)
        | (go_at_call 35; refine (Had.out k5 (.slice none 0 0) _ b5 cap5 w5 (hs3.ext he5) hk5 hk6 hk7 hp5 ho5 (by simp) (tab_ext Htb3.out he5) hw5.out).mono ?_; rintro e w6 ⟨v6, rfl, ho6, ha6⟩; have hcv := run_convert_own ho6 (by simp only [List.nil_append]; exact decDigits_ne _)))
      all_goals
        go_wp2_with fail
        go_ret
        exact ⟨by rw [Hz'.out]; rfl, hEb.trans (hE3.trans ((Apd.of_ext he5 _).trans ha6).ext)⟩

end Go.Proofs.YtnemjllghpijgaaDoor
namespace Go.Proofs.YtnemjllghpijgaaDoor
open Go.RowKit

theorem lim_two : Lim ≤ 2 ^ (4 * limN) := by
  unfold Lim
  rw [Nat.pow_mul]
  exact Nat.pow_le_pow_left (by decide) _

/-- As many words as the laws' numbers have at most. -/
def kN : Nat := 128
theorem pow_room (n m x : Nat) (hx : x ≤ 2 ^ (4 * n)) (h : 2 + (4 * n + 4 * n) < 64 * m) : 4 * (x * x) < B64 ^ m := by
  have h1 : x * x ≤ 2 ^ (4 * n) * 2 ^ (4 * n) := Nat.mul_le_mul hx hx
  have h2 : 4 * (x * x) ≤ 2 ^ 2 * (2 ^ (4 * n) * 2 ^ (4 * n)) := Nat.mul_le_mul (by decide) h1
  refine Nat.lt_of_le_of_lt h2 ?_
  rw [B64_two, ← Nat.pow_add, ← Nat.pow_add, ← Nat.pow_mul]
  exact Nat.pow_lt_pow_right (by decide) h

/-- There is a bound on all numbers that a law reckons. -/
theorem lim_room : ∃ K Q : Nat, K ≤ 4194304 ∧ 1 ≤ K ∧ Lim ≤ Q ∧ K ≤ 100000 ∧ (∀ a b : Int, a.natAbs ≤ Lim → b.natAbs ≤ Lim → (a * b).natAbs ≤ Q) ∧ ∀ z : Int, z.natAbs ≤ 4 * Q → Fit K z := by
  refine ⟨kN, Lim * Lim, by decide, by decide, Nat.le_mul_of_pos_right _ lim_pos, by decide, ?_, ?_⟩
  · intro a b ha hb
    rw [Int.natAbs_mul]
    exact Nat.mul_le_mul ha hb
  · intro z hz
    unfold Fit
    exact Nat.lt_of_le_of_lt hz (pow_room limN kN Lim lim_two (by decide))

theorem begun_text : Lib.itoa (-70001) = [45, 55, 48, 48, 48, 49] := by
  unfold Lib.itoa
  rw [if_pos (by decide), show (-70001 : Int).natAbs = 70001 from rfl, Lib.decDigits_eq]
  have h : Lib.nDigits 70001 = 5 := Lib.nDigits_unique 4 70001 (by decide) (by decide)
  rw [h]
  decide

set_option maxHeartbeats 1000000 in
set_option maxRecDepth 100000 in
theorem wholeBegun_any (w : World) (htab : Ten w) : Calls Tryd.prog 6 #[] w fun e w' => e = .returned (.bool true) ∧ Ext w w' := by
  have Htab := hid htab
  clear htab
  go_enter Tryd.func6, Tryd.ntmps6
  go_wp2_with fail
  refine (Of_any (-70001) (by omega) (by omega) w).mono ?_
  rintro e w1 ⟨rfl, hI, hx1⟩
  go_wp2_with fail
  refine (Text_any _ _ _ _ _ w1 hI (by omega) (tab_ext Htab.out hx1)).mono ?_
  rintro e w2 ⟨rfl, hx2⟩
  rw [begun_text]
  go_wp2_with fail
  go_ret
  exact ⟨rfl, hx1.trans hx2⟩

/-- A number and a fault that a law has put into variables of its own. -/
theorem box2_new (w : World) (s : Int) (a : Option Addr) (n c : Nat) (u v : Value) : Box ((w.alloc (.cells #[.int .i64 s, .slice a n c] 24)).alloc (.cells #[u, v] 26)) w.heap.size s a n c := (box_new w s a n c).ext (Ext.alloc _ _)
theorem ext2_new (w : World) (o p : Obj) : Ext w ((w.alloc o).alloc p) := (Ext.alloc _ _).then _

theorem Gcd_all (s1 s2 : Int) (a1 a2 : Option Addr) (n1 c1 n2 c2 : Nat) (z1 z2 : Int) (w : World) (h1 : IsInt w s1 a1 n1 c1 z1) (h2 : IsInt w s2 a2 n2 c2 z2) (K : Nat) (hK : K ≤ 4194304) (hK1 : 1 ≤ K) (hf1 : Fit K z1) (hf2 : Fit K z2) (hbr : Bru w) :
    Calls Tryd.prog 11 #[.agg #[.int .i64 s1, .slice a1 n1 c1], .agg #[.int .i64 s2, .slice a2 n2 c2]] w fun e w' => ∃ (s' : Int) (a' : Option Addr) (n' c' : Nat), e = .returned (.agg #[.int .i64 s', .slice a' n' c']) ∧ IsInt w' s' a' n' c' (Nat.gcd z1.natAbs z2.natAbs : Nat) ∧ Ext w w' := by
  by_cases h : z1 = 0 ∨ z2 = 0
  · exact Gcd_zero s1 s2 a1 a2 n1 c1 n2 c2 z1 z2 w h1 h2 K hK hf1 hf2 h
  · exact Gcd_any s1 s2 a1 a2 n1 c1 n2 c2 z1 z2 w h1 h2 K hK hK1 hf1 hf2 (fun k => h (Or.inl k)) (fun k => h (Or.inr k)) hbr

/-- A variable that holds a fault. -/
structure FBx (W : World) (g : Nat) (u v : Int) : Prop where
  row : W.heap[g]? = some (.cells #[.int .i64 u, .int .i64 v] 26 (0, 0))
theorem FBx.lt {W : World} {g : Nat} {u v : Int} (h : FBx W g u v) : g < W.heap.size := (Array.getElem?_eq_some_iff.1 h.row).1
theorem FBx.ext {W W' : World} {g : Nat} {u v : Int} (h : FBx W g u v) (k : Ext W W') : FBx W' g u v := ⟨(k.block _ h.lt).trans h.row⟩
theorem FBx.c0 {W : World} {g : Nat} {u v : Int} (h : FBx W g u v) : W.cell? ⟨g, 0, none⟩ = some (.int .i64 u) := by rw [cell_of_row W g 0 _ _ (0, 0) h.row]; rfl
theorem FBx.c1 {W : World} {g : Nat} {u v : Int} (h : FBx W g u v) : W.cell? ⟨g, 1, none⟩ = some (.int .i64 v) := by rw [cell_of_row W g 1 _ _ (0, 0) h.row]; rfl
theorem FBx.f0 {W : World} {g : Nat} {u v : Int} (h : FBx W g u v) (o : Nat) : W.frozen? ⟨g, o, none⟩ = false := frozen_of_row W g o _ _ h.row
theorem FBx.own {W : World} {g : Nat} {u v : Int} (h : FBx W g u v) (u' v' : Int) : FBx ((W.setCell ⟨g, 0, none⟩ (.int .i64 u')).setCell ⟨g, 1, none⟩ (.int .i64 v')) g u' v' := by
  have h1 := heap_setCell_same W g 0 _ _ (.int .i64 u') h.row
  have h2 := heap_setCell_same (W.setCell ⟨g, 0, none⟩ (.int .i64 u')) g 1 _ _ (.int .i64 v') h1
  exact ⟨h2⟩
theorem FBx.put {W : World} {g h o : Nat} {u v : Int} (hb : FBx W g u v) (hne : g ≠ h) (k : Value) : FBx (W.setCell ⟨h, o, none⟩ k) g u v := ⟨(Below.heap_setCell _ _ _ _ hne).trans hb.row⟩
theorem fbx_new (w : World) (u v : Int) : FBx (w.alloc (.cells #[.int .i64 u, .int .i64 v] 26)) w.heap.size u v := ⟨heap_alloc_new w _⟩

theorem IsDiv.facts {x y q r : Int} (h : IsDiv x y q r) : q.natAbs ≤ x.natAbs ∧ q * y + r = x ∧ r.natAbs < y.natAbs ∧ 0 ≤ r := by
  obtain ⟨h1, h2, h3, h4⟩ := h
  exact ⟨h4, h1.symm, by omega, h2⟩

end Go.Proofs.YtnemjllghpijgaaDoor
namespace Go.Proofs.YtnemjllghpijgaaDoor
open Go.RowKit

/-- Block b holds ints. -/
def IBlk (w : World) (b : Nat) : Prop := ∃ (cur : Array Value) (fr : Nat × Nat), w.heap[b]? = some (.cells cur 3 fr)
theorem IBlk.lt {w : World} {b : Nat} (h : IBlk w b) : b < w.heap.size := by
  obtain ⟨cur, fr, h⟩ := h
  exact (Array.getElem?_eq_some_iff.1 h).1
theorem IBlk.block {w w' : World} {b : Nat} (h : IBlk w b) (k : w'.heap[b]? = w.heap[b]?) : IBlk w' b := by
  obtain ⟨cur, fr, h⟩ := h
  exact ⟨cur, fr, k.trans h⟩

/-- The ints l lie at ao. -/
def ISeg (w : World) (ao : Option Addr) (l : List Nat) : Prop :=
  (ao = none ∧ l = []) ∨ ∃ b o, ao = some ⟨b, o, none⟩ ∧ IBlk w b ∧ ∀ t, t < l.length → w.cell? ⟨b, o + t, none⟩ = some (.int .i64 (l.getD t 0 : Nat))

theorem ISeg.ext {w w' : World} {ao : Option Addr} {l : List Nat} (h : ISeg w ao l) (k : Ext w w') : ISeg w' ao l := by
  rcases h with h | ⟨b, o, rfl, hb, hc⟩
  · exact Or.inl h
  · exact Or.inr ⟨b, o, rfl, hb.block (k.block b hb.lt), fun t ht => (k.cell (p := ⟨b, o + t, none⟩) hb.lt).trans (hc t ht)⟩

theorem ISeg.take {w : World} {ao : Option Addr} {l : List Nat} (h : ISeg w ao l) (n : Nat) : ISeg w ao (l.take n) := by
  rcases h with ⟨rfl, rfl⟩ | ⟨b, o, rfl, hb, hc⟩
  · exact Or.inl ⟨rfl, by simp⟩
  · refine Or.inr ⟨b, o, rfl, hb, fun t ht => ?_⟩
    rw [List.length_take] at ht
    rw [hc t (by omega)]
    simp only [List.getD_eq_getElem?_getD, List.getElem?_take]
    rw [if_pos (by omega)]

theorem ISeg.at {w : World} {b o : Nat} {l : List Nat} (h : ISeg w (some ⟨b, o, none⟩) l) (t : Nat) (ht : t < l.length) : w.cell? ⟨b, o + t, none⟩ = some (.int .i64 (l.getD t 0 : Nat)) := by
  rcases h with ⟨h, _⟩ | ⟨b', o', h, _, hc⟩
  · cases h
  · simp only [Option.some.injEq, Addr.mk.injEq, and_true] at h
    obtain ⟨rfl, rfl⟩ := h
    exact hc t ht

theorem ISeg.some_of {w : World} {ao : Option Addr} {l : List Nat} (h : ISeg w ao l) (hl : 0 < l.length) : ∃ b o, ao = some ⟨b, o, none⟩ := by
  rcases h with ⟨_, rfl⟩ | ⟨b, o, h, _⟩
  · simp at hl
  · exact ⟨b, o, h⟩

/-- The number that digits make, the lowest first. -/
def zval : List Nat → Nat
  | [] => 0
  | x :: r => x + 10000 * zval r
theorem zval_append (a b : List Nat) : zval (a ++ b) = zval a + 10000 ^ a.length * zval b := by
  induction a with
  | nil => simp [zval]
  | cons x r ih =>
    rw [List.cons_append, zval, ih, zval, List.length_cons, Nat.pow_succ, Nat.mul_add]
    rw [Nat.mul_comm (10000 ^ r.length) 10000, Nat.mul_assoc]
    omega
theorem zval_snoc (l : List Nat) (x : Nat) : zval (l ++ [x]) = zval l + 10000 ^ l.length * x := by rw [zval_append]; simp [zval]

/-- All are digits. -/
def ZD (l : List Nat) : Prop := ∀ x ∈ l, x < 10000
theorem ZD.nil : ZD [] := fun _ h => by simp at h
theorem ZD.snoc {l : List Nat} {x : Nat} (h : ZD l) (hx : x < 10000) : ZD (l ++ [x]) := fun y hy => by
  simp only [List.mem_append, List.mem_singleton] at hy
  rcases hy with hy | rfl
  · exact h y hy
  · exact hx
theorem ZD.take {l : List Nat} (h : ZD l) (n : Nat) : ZD (l.take n) := fun x hx => h x (List.mem_of_mem_take hx)
theorem ZD.get {l : List Nat} (h : ZD l) (t : Nat) : l.getD t 0 < 10000 := by
  rw [List.getD_eq_getElem?_getD]
  by_cases ht : t < l.length
  · rw [List.getElem?_eq_getElem ht]; exact h _ (List.getElem_mem ht)
  · rw [List.getElem?_eq_none (by omega)]; decide
theorem zval_lt {l : List Nat} (h : ZD l) : zval l < 10000 ^ l.length := by
  induction l with
  | nil => simp [zval]
  | cons x r ih =>
    have h1 := h x (List.mem_cons_self ..)
    have h2 := ih (fun y hy => h y (List.mem_cons_of_mem _ hy))
    rw [zval, List.length_cons, Nat.pow_succ]
    omega

/-- The last digit is not nought. -/
def ZN (l : List Nat) : Prop := l = [] ∨ l.getD (l.length - 1) 0 ≠ 0

theorem take_zsucc (l : List Nat) (k : Nat) (h : k < l.length) : l.take (k + 1) = l.take k ++ [l.getD k 0] := by
  rw [List.take_add_one, List.getD_eq_getElem?_getD, List.getElem?_eq_getElem h]
  rfl

/-- The two cells of a number of the reference hold z. -/
def IsZ (w : World) (neg : Bool) (ao : Option Addr) (n c : Nat) (z : Int) : Prop :=
  ∃ l : List Nat, l.length = n ∧ n ≤ c ∧ c ≤ maxLen ∧ ISeg w ao l ∧ ZD l ∧ ZN l ∧ z = (if neg then -(zval l : Int) else (zval l : Int)) ∧ (l = [] → neg = false)

theorem IsZ.ext {w w' : World} {neg : Bool} {ao : Option Addr} {n c : Nat} {z : Int} (h : IsZ w neg ao n c z) (k : Ext w w') : IsZ w' neg ao n c z := by
  obtain ⟨l, h1, h2, h3, h4, h5⟩ := h
  exact ⟨l, h1, h2, h3, h4.ext k, h5⟩
theorem IsZ.zero (w : World) : IsZ w false none 0 0 0 := ⟨[], rfl, Nat.le_refl _, Nat.zero_le _, Or.inl ⟨rfl, rfl⟩, ZD.nil, Or.inl rfl, rfl, fun _ => rfl⟩
theorem IsZ.cast {w : World} {neg : Bool} {ao : Option Addr} {n c : Nat} {z z' : Int} (h : IsZ w neg ao n c z) (e : z = z') : IsZ w neg ao n c z' := e ▸ h

/-- A number stays what it is while cells that hold no int are written. -/
theorem ISeg.keepRes {w : World} {g : Nat} {ao : Option Addr} {l : List Nat} {x : Bool} {p : Option Addr} {q r : Nat} {T : TypeId} (h : ISeg w ao l) (hg : w.heap[g]? = some (.cells #[.bool x, .slice p q r] T (0, 0))) (u v : Value) :
    ISeg ((w.setCell ⟨g, 0, none⟩ u).setCell ⟨g, 1, none⟩ v) ao l := by
  rcases h with h | ⟨b, o, rfl, hb, hc⟩
  · exact Or.inl h
  · have hO : Only g w ((w.setCell ⟨g, 0, none⟩ u).setCell ⟨g, 1, none⟩ v) := ((Only.refl _ _).setCell _ _).setCell _ _
    have hbk : IBlk ((w.setCell ⟨g, 0, none⟩ u).setCell ⟨g, 1, none⟩ v) b := by
      by_cases hbg : b = g
      · subst hbg
        obtain ⟨cur, fr, hcur⟩ := hb
        rw [hg] at hcur
        cases hcur
        have q1 := heap_setCell_same w b 0 _ _ u hg
        have q2 := heap_setCell_same (w.setCell ⟨b, 0, none⟩ u) b 1 _ _ v q1
        exact ⟨_, _, q2⟩
      · exact hb.block (hO.block b hbg)
    refine Or.inr ⟨b, o, rfl, hbk, fun t ht => ?_⟩
    have h1 := hc t ht
    by_cases hbg : b = g
    · subst hbg
      rw [cell_of_row w b (o + t) _ T (0, 0) hg] at h1
      match o + t, h1 with
      | 0, h1 => simp at h1
      | 1, h1 => simp at h1
      | k + 2, h1 => simp at h1
    · exact (World.cell?_of_block (a := ⟨b, o + t, none⟩) (hO.block b hbg)).trans h1
theorem IsZ.keepRes {w : World} {g : Nat} {neg : Bool} {ao : Option Addr} {n c : Nat} {z : Int} {x : Bool} {p : Option Addr} {q r : Nat} {T : TypeId} (h : IsZ w neg ao n c z) (hg : w.heap[g]? = some (.cells #[.bool x, .slice p q r] T (0, 0))) (u v : Value) :
    IsZ ((w.setCell ⟨g, 0, none⟩ u).setCell ⟨g, 1, none⟩ v) neg ao n c z := by
  obtain ⟨l, h1, h2, h3, h4, h5⟩ := h
  exact ⟨l, h1, h2, h3, h4.keepRes hg u v, h5⟩

/-- The cells of a number of the reference that is answered. -/
structure ZRes (W : World) (g : Nat) : Prop where
  row : W.heap[g]? = some (.cells #[.bool false, .slice none 0 0] 31 (0, 0))
theorem ZRes.lt {W : World} {g : Nat} (h : ZRes W g) : g < W.heap.size := (Array.getElem?_eq_some_iff.1 h.row).1
theorem ZRes.ext {W W' : World} {g : Nat} (h : ZRes W g) (k : Ext W W') : ZRes W' g := ⟨(k.block _ h.lt).trans h.row⟩
theorem ZRes.c0 {W : World} {g : Nat} (h : ZRes W g) : W.cell? ⟨g, 0, none⟩ = some (.bool false) := by rw [cell_of_row W g 0 _ _ (0, 0) h.row]; rfl
theorem ZRes.c1 {W : World} {g : Nat} (h : ZRes W g) : W.cell? ⟨g, 1, none⟩ = some (.slice none 0 0) := by rw [cell_of_row W g 1 _ _ (0, 0) h.row]; rfl
theorem ZRes.f {W : World} {g : Nat} (h : ZRes W g) (o : Nat) : W.frozen? ⟨g, o, none⟩ = false := frozen_of_row W g o _ _ h.row
theorem zres_new (w : World) : ZRes (w.alloc (.cells #[.bool false, .slice none 0 0] 31)) w.heap.size := ⟨heap_alloc_new w _⟩

theorem zval_take_zeros (l : List Nat) (k : Nat) (hk : k ≤ l.length) (h : ∀ t, k ≤ t → t < l.length → l.getD t 0 = 0) : zval (l.take k) = zval l := by
  induction l generalizing k with
  | nil => simp
  | cons x r ih =>
    cases k with
    | zero =>
      have hx : x = 0 := by have := h 0 (Nat.le_refl _) (by simp); simpa using this
      have := ih 0 (by simp) (fun t _ ht => by have := h (t + 1) (by omega) (by simpa using ht); simpa using this)
      simp only [List.take_zero] at this ⊢
      show 0 = x + 10000 * zval r
      rw [hx, ← this]
      rfl
    | succ k =>
      have := ih k (by simpa using hk) (fun t h1 ht => by have := h (t + 1) (by omega) (by simpa using ht); simpa using this)
      rw [List.take_succ_cons, zval, zval, this]

theorem ext_alloc (w : World) (o : Obj) : Ext w (w.alloc o) := (Below.refl _ _).alloc (Nat.le_refl _) o

/-- A call has answered a number of the reference. -/
def ZRet (w : World) (z : Int) (n : Nat) (e : Ending) (w' : World) : Prop := ∃ (b' : Bool) (a' : Option Addr) (n' c' : Nat), e = .returned (.agg #[.bool b', .slice a' n' c']) ∧ IsZ w' b' a' n' c' z ∧ n' ≤ n ∧ Ext w w'

/-- The same, and where its digits lie. -/
def ZRetB (w : World) (z : Int) (n : Nat) (P : Option Addr → Prop) (e : Ending) (w' : World) : Prop := ∃ (b' : Bool) (a' : Option Addr) (n' c' : Nat), e = .returned (.agg #[.bool b', .slice a' n' c']) ∧ IsZ w' b' a' n' c' z ∧ n' ≤ n ∧ Ext w w' ∧ P a'
theorem ZRetB.ret {w : World} {z : Int} {n : Nat} {P : Option Addr → Prop} {e : Ending} {w' : World} (h : ZRetB w z n P e w') : ZRet w z n e w' := by
  obtain ⟨b', a', n', c', h1, h2, h3, h4, _⟩ := h
  exact ⟨b', a', n', c', h1, h2, h3, h4⟩

set_option maxHeartbeats 1000000 in
set_option maxRecDepth 100000 in
theorem zmade_blk (neg : Bool) (ao : Option Addr) (l : List Nat) (n c : Nat) (w : World) (hl : l.length = n) (hs : ISeg w ao l) (hd : ZD l) (hc : n ≤ c) (hcm : c ≤ maxLen) (hn : n ≤ 1000000) (z : Int) (hz : z = if neg then -(zval l : Int) else (zval l : Int)) :
    Calls Tryd.prog 27 #[.bool neg, .slice ao n c] w (ZRetB w z n (fun a' => a' = none ∨ a' = ao)) := by
  have Hz := Lib.hid hz
  clear hz
  have Hl := Lib.hid hl; have Hs := Lib.hid hs; have Hd := Lib.hid hd
  have hE := ext_alloc w (.cells #[.bool false, .slice none 0 0] 31)
  have hR := zres_new w
  have hab : n = 0 ∨ ∃ b o, ao = some ⟨b, o, none⟩ := by
    by_cases h0 : n = 0
    · exact Or.inl h0
    · exact Or.inr (hs.some_of (by omega))
  unfold maxLen at hcm
  clear hl hs hd
  go_enter Tryd.func27, Tryd.ntmps27
  go_wp2_with fail
  generalize w.alloc (.cells #[.bool false, .slice none 0 0] 31) = W0 at *
  have Hs0 := Lib.hid (Hs.out.ext hE)
  go_loop [5] (fun i => ∃ k : Nat, k ≤ n ∧ i = .int .i64 k ∧ ∀ t, k ≤ t → t < n → l.getD t 0 = 0) (fun i => (intOf i).toNat)
  case atStart => exact ⟨n, Nat.le_refl _, rfl, fun t h1 h2 => by omega⟩
  case round =>
    obtain ⟨k, hk, rfl, hall⟩ := hrel
    have Hall := Lib.hid hall
    clear hall
    have Hv : Hid (zval (l.take k) = zval l) := zval_take_zeros l k (by rw [Hl.out]; exact hk) (by rw [Hl.out]; exact Hall.out)
    have fin : ∀ (hz : k = 0 ∨ l.getD (k - 1) 0 ≠ 0), ZN (l.take k) := by
      intro hz
      by_cases h0 : k = 0
      · subst h0; exact Or.inl (by simp)
      · right
        have hlen : (l.take k).length = k := by rw [List.length_take, Hl.out]; omega
        rw [hlen, List.getD_eq_getElem?_getD, List.getElem?_take, if_pos (by omega), ← List.getD_eq_getElem?_getD]
        exact hz.resolve_left h0
    have Fin := Lib.hid fin
    clear fin
    by_cases hk0 : k = 0
    · subst hk0
      have hv0 : zval l = 0 := by rw [← Hv.out]; rfl
      have Hv0 := Lib.hid hv0
      have k0 := hR.c0; have k1 := hR.c1; have f0 := hR.f 0; have f1 := hR.f 1
      clear hv0
      go_wp2_with fail
      exact bodyPost_ret (v := .agg #[.bool false, .slice none 0 0]) (by simp [results, Tryd.results27, go_sem, k0, k1]) rfl ⟨false, none, 0, 0, rfl, (IsZ.zero _).cast (by rw [Hz.out, Hv0.out]; split <;> rfl), Nat.zero_le _, (Below.setCell hE (p := ⟨w.heap.size, 0, none⟩) (Nat.le_refl _) _).setCell (p := ⟨w.heap.size, 1, none⟩) (Nat.le_refl _) _, Or.inl rfl⟩
    · have ik : (0 : Int) < (k : Int) := by omega
      have ik1 : (k : Int) - 1 = ((k - 1 : Nat) : Int) := by omega
      obtain ⟨j, rfl⟩ : ∃ j, k = j + 1 := ⟨k - 1, by omega⟩
      rcases hab with h0 | ⟨b, o, rfl⟩
      · omega
      have hcl := Hs0.out.at j (by rw [Hl.out]; omega)
      obtain ⟨x, hx⟩ : ∃ x, l.getD j 0 = x := ⟨_, rfl⟩
      rw [hx] at hcl
      have Hx := Lib.hid hx
      have ij : (j : Int) < (n : Int) := by omega
      have ij2 : (j : Int) + 1 ≤ (c : Int) := by omega
      clear hx ik1 hk0
      by_cases hx0 : x = 0
      · subst hx0
        go_wp2_with fail
        go_round
        case rel => exact ⟨j, by omega, by go_num, fun t h1 h2 => by
          by_cases e : t = j
          · rw [e]; exact Hx.out
          · exact Hall.out t (by omega) h2⟩
        case measure => simp [intOf]
      · have hxb : ((x : Int) == 0) = false := by rw [beq_eq_false_iff_ne]; omega
        have hjb : ((j : Int) + 1 == 0) = false := by rw [beq_eq_false_iff_ne]; omega
        have Hzn := Lib.hid (Fin.out (Or.inr (by rw [Nat.add_sub_cancel, Hx.out]; exact hx0)))
        have k0 := hR.c0; have k1 := hR.c1; have f0 := hR.f 0; have f1 := hR.f 1
        clear hx0
        go_wp2_with fail
        exact bodyPost_ret (v := .agg #[.bool neg, .slice (some ⟨b, o, none⟩) (j + 1) c]) (by simp [results, Tryd.results27, go_sem, k0, k1]) rfl ⟨neg, some ⟨b, o, none⟩, j + 1, c, rfl, IsZ.keepRes ⟨l.take (j + 1), by rw [List.length_take, Hl.out]; omega, by omega, by unfold maxLen; omega, Hs0.out.take _, Hd.out.take _, Hzn.out, by rw [Hz.out, Hv.out], fun h => by
          have := congrArg List.length h
          rw [List.length_take, Hl.out] at this
          simp at this
          omega⟩ hR.row _ _, by omega, (Below.setCell hE (p := ⟨w.heap.size, 0, none⟩) (Nat.le_refl _) _).setCell (p := ⟨w.heap.size, 1, none⟩) (Nat.le_refl _) _, Or.inr rfl⟩

theorem zmade_any (neg : Bool) (ao : Option Addr) (l : List Nat) (n c : Nat) (w : World) (hl : l.length = n) (hs : ISeg w ao l) (hd : ZD l) (hc : n ≤ c) (hcm : c ≤ maxLen) (hn : n ≤ 1000000) (z : Int) (hz : z = if neg then -(zval l : Int) else (zval l : Int)) :
    Calls Tryd.prog 27 #[.bool neg, .slice ao n c] w (ZRet w z n) :=
  (zmade_blk neg ao l n c w hl hs hd hc hcm hn z hz).mono fun _ _ h => h.ret

end Go.Proofs.YtnemjllghpijgaaDoor
