/-
  Reading numbers: readNumber. Texts of numbers, in plain lists: padded digits. Texts of numbers, read again, in plain lists. Reading numbers: Parse. And what results' cells do to words: nothing. divTowardsNought. Div: quotient and rest. withoutSign, halve, double. halve: over a power of two, rounded down.
-/
import Derived.Test.YtldkomeacocjbaaGreatDoorProg
import Derived.Test.YtldkomeacocjbaaGreatDoorRows
import Derived.BigQuiet
import Derived.Deep.Cut
import Derived.Deep.QuietTactic
import Derived.Deep.RegionHeld3
import Derived.Laws.Bits64b
import Derived.Laws.CopyOwn
import Derived.Laws.ResultCell
import Derived.Lib.BitFns
import Derived.Lib.ItoaNum
import Derived.Lib.Strings
import Derived.Lib.TrailingZeros
import Derived.Shelf.Bits.Mul64
import Derived.Shelf.LaysM
import Derived.Shelf.Small.Bits
import Derived.Shelf.Small.Wraps
import Derived.Shelf.Spec.BitsCarry
import Derived.Shelf.Spec.TrailingZeros
import Derived.Shelf.Strconv.Itoa0
import Derived.Shelf.Strconv.Itoa1
import Derived.Shelf.Strconv.Itoa2
import Derived.Shelf.Strconv.Itoa3
import Derived.Shelf.Strings.Builder1
import Derived.Shelf.Strings.BuilderF
import Derived.Shelf.Strings.BuilderK
import Derived.WalkKit
import Derived.WalkLawsBesides
import Derived.WalkSpells
import Derived.Test.YtldkomeacocjbaaGreatDoorS00Mem
import Derived.Test.YtldkomeacocjbaaGreatDoorShelf
import Derived.Test.YtldkomeacocjbaaGreatDoorS02ShiftI
import Derived.Test.YtldkomeacocjbaaGreatDoorS03GuessD
import Derived.Test.YtldkomeacocjbaaGreatDoorS04IntB
import Derived.Test.YtldkomeacocjbaaGreatDoorS05IntD
import Derived.Test.YtldkomeacocjbaaGreatDoorS06ParC
namespace Go.Proofs.YtldkomeacocjbaaGreatDoor
open Go.RowKit

theorem dval_append (a b : List Nat) : dval (a ++ b) = dval a * 10 ^ b.length + dval b := by
  induction hn : b.length generalizing b with
  | zero => have : b = [] := List.eq_nil_of_length_eq_zero hn; subst this; simp [dval]
  | succ n ih =>
    have hl : b = b.take n ++ [b.getD n 0] := by
      have := take_succ_getD b n (by omega)
      rw [List.take_of_length_le (by omega)] at this
      exact this
    have hlt : (b.take n).length = n := by rw [List.length_take]; omega
    have h1 := ih (b.take n) hlt
    have e1 : dval b = 10 * dval (b.take n) + (b.getD n 0 - 48) := by
      have := dval_snoc (b.take n) (b.getD n 0)
      rw [← hl] at this; exact this
    have e2 : dval (a ++ b) = 10 * dval (a ++ b.take n) + (b.getD n 0 - 48) := by
      have := dval_snoc (a ++ b.take n) (b.getD n 0)
      rw [List.append_assoc, ← hl] at this; exact this
    rw [e2, h1, e1, Nat.pow_succ]
    generalize dval a = x
    generalize dval (b.take n) = y
    generalize 10 ^ n = z
    rw [Nat.mul_add, ← Nat.mul_assoc, Nat.mul_comm 10 x, Nat.mul_assoc x, Nat.mul_comm 10 z]
    omega

/-- All are digits. -/
def AllD (l : List Nat) : Prop := ∀ t, t < l.length → isD (l.getD t 0) = true
theorem AllD.drop {l : List Nat} (h : AllD l) (n : Nat) : AllD (l.drop n) := fun t ht => by
  rw [List.length_drop] at ht
  rw [drop_getD]; exact h (n + t) (by omega)
theorem AllD.take {l : List Nat} (h : AllD l) (n : Nat) : AllD (l.take n) := fun t ht => by
  rw [List.length_take] at ht
  rw [List.getD_eq_getElem?_getD, List.getElem?_take, if_pos (by omega), ← List.getD_eq_getElem?_getD]; exact h t (by omega)

theorem ten_le (k : Nat) : 10 ^ k ≤ B64 ^ k := Nat.pow_le_pow_left (by rw [B64_eq]; omega) k

theorem take_app (a b : List Nat) (m : Nat) : (a ++ b).take (a.length + m) = a ++ b.take m := by
  induction a with
  | nil => simp
  | cons x r ih => rw [List.cons_append, List.length_cons, show r.length + 1 + m = (r.length + m) + 1 from by omega, List.take_succ_cons, ih, List.cons_append]

/-- One round of readNumber, in plain numbers. -/
theorem read_step {used t : List Nat} {v : Nat} (hv : v = dval used) (ht : 0 < t.length) (hu : used = [] ∨ t.length % 19 = 0) :
    dval (t.take ((t.length - 1) % 19 + 1)) + v * 10000000000000000000 = dval (used ++ t.take ((t.length - 1) % 19 + 1)) := by
  rw [dval_append, hv]
  rcases hu with rfl | hu
  · simp [dval]
  · have hm : (t.length - 1) % 19 + 1 = 19 := by omega
    have hl : (t.take 19).length = 19 := by rw [List.length_take]; omega
    rw [hm, hl]
    rw [Nat.add_comm]

set_option maxHeartbeats 1000000 in
set_option maxRecDepth 100000 in
theorem readNumber_any (s : ByteArray) (w : World) (hs : (bs s).length - sgl (bs s) ≤ 1000) (had : AllD ((bs s).drop (sgl (bs s)))) :
    Calls Tryz.prog 156 #[.string s] w fun e w' => ∃ (sm : Int) (a' : Option Addr) (n' c' : Nat), e = .returned (.agg #[.int .i64 sm, .slice a' n' c']) ∧ IsInt w' sm a' n' c' (sgn (decide (0 < sgl (bs s))) (dval ((bs s).drop (sgl (bs s))))) ∧ Ext w w' := by
  have hR : Res (w.alloc (.cells #[.int .i64 0, .slice none 0 0] 24)) w.heap.size := ⟨by simp, heap_alloc_new w _⟩
  have hE : Ext w (w.alloc (.cells #[.int .i64 0, .slice none 0 0] 24)) := Ext.alloc _ _
  have hsl := sgl_le (bs s)
  rw [bs_length] at hsl hs
  have hext : bs (s.extract (sgl (bs s)) s.size) = (bs s).drop (sgl (bs s)) := by
    rw [bs_extract, List.take_of_length_le]
    rw [List.length_drop, bs_length]; omega
  have Hsl := hid (fun wx => signLength_any s wx (by omega))
  obtain ⟨g, hg⟩ : ∃ g, sgl (bs s) = g := ⟨_, rfl⟩
  rw [hg] at hsl hs had hext Hsl ⊢
  obtain ⟨D, hD⟩ : ∃ D, (bs s).drop g = D := ⟨_, rfl⟩
  have hDl : D.length = s.size - g := by rw [← hD, List.length_drop, bs_length]
  rw [hD] at had hext ⊢
  obtain ⟨hg1, hg2⟩ := hsl
  have hgi : (g : Int) ≤ (s.size : Int) := by omega
  have HDl := hid hDl; have Hext := hid hext; have Had := hid had
  have hsz' : (s.extract g s.size).size = s.size - g := by rw [← bs_length, hext, hDl]
  have Hsz' := hid hsz'
  clear hDl hext hD hg had hsz'
  obtain ⟨nb, hnb⟩ : ∃ nb, decide (0 < g) = nb := ⟨_, rfl⟩
  rw [hnb]
  have Hnb := hid hnb
  clear hnb
  go_enter Tryz.func156, Tryz.ntmps156
  go_wp2_with fail
  generalize w.alloc (.cells #[.int .i64 0, .slice none 0 0] 24) = W0 at *
  refine (Hsl.out _).mono ?_
  rintro e w1 ⟨rfl, rfl⟩
  go_wp2_with fail
  obtain ⟨d0, hd0⟩ : ∃ d0, s.extract g s.size = d0 := ⟨_, rfl⟩
  rw [hd0] at Hext Hsz' ⊢
  clear hd0
  go_loopw [4, 5] (fun dv wv wr => ∃ (t : ByteArray) (used : List Nat) (ao : Option Addr) (l : List Nat) (n c : Nat), dv = .string t ∧ wv = .slice ao n c ∧ used ++ bs t = D ∧ (used = [] ∨ (bs t).length % 19 = 0) ∧ l.length = n ∧ n ≤ c ∧ c ≤ maxLen ∧ Seg wr ao l ∧ Dig l ∧ n ≤ 1000 ∧ val l = dval used ∧ Ext W0 wr)
    (fun dv _ _ => match dv with | .string t => t.size | _ => 0)
  case atStart => exact ⟨d0, [], none, [], 0, 0, rfl, rfl, by rw [List.nil_append]; exact Hext.out, Or.inl rfl, rfl, Nat.le_refl _, Nat.zero_le _, Or.inl ⟨rfl, rfl⟩, Dig.nil, Nat.zero_le _, rfl, Ext.refl _⟩
  case round =>
    obtain ⟨t, used, ao, l, n, c, rfl, rfl, hsplit, hmod, hl, hc, hcm, hsg, hd, hn, hv, hEr⟩ := hrel
    have Hsplit := hid hsplit; have Hmod := hid hmod; have Hl := hid hl; have Hv := hid hv
    have htl : (bs t).length ≤ 1000 := by
      have := congrArg List.length hsplit
      rw [List.length_append, HDl.out] at this; omega
    rw [bs_length] at htl
    clear hsplit hmod hl hv
    by_cases h0 : t.size = 0
    · have e := bs_nil t h0
      subst e
      have hfin : val l = dval D := by rw [Hv.out, ← Hsplit.out]; simp [bs]
      have Hfin := hid hfin
      clear hfin
      go_wp2_with fail
      rw [Hnb.out]
      refine (fromWords_from (w := W0) nb wr ao l n c hEr Hl.out hsg hd hc hcm).mono ?_
      rintro e w3 ⟨s4, a4, n4, c4, rfl, hI4, he4, hx4⟩
      have hr4 := hR.ext he4
      have k0 := hr4.c0; have k1 := hr4.c1; have g0 := hr4.f0; have g1 := hr4.f1
      go_wp2_with fail
      exact bodyPost_ret (v := .agg #[.int .i64 s4, .slice a4 n4 c4]) (by simp [results, Tryz.results156, go_sem, k0, k1]) rfl ⟨s4, a4, n4, c4, rfl, (hI4.cast (by rw [Hfin.out])).setRes hr4.row _ _, (hE.trans he4).setRes (Nat.le_refl _) _ _⟩
    · have hp : 0 < t.size := by omega
      have he := bs_empty t hp
      obtain ⟨m, hm⟩ : ∃ m, (t.size - 1) % 19 + 1 = m := ⟨_, rfl⟩
      have em : ((t.size : Int) - 1) % 19 + 1 = (m : Int) := by omega
      have hm1 : m ≤ t.size := by omega
      have hm2 : m ≤ 19 := by omega
      have hm3 : 1 ≤ m := by omega
      have hmi : (m : Int) ≤ (t.size : Int) := by omega
      have hx1 : bs (t.extract 0 m) = (bs t).take m := by rw [bs_extract]; simp
      have hx2 : bs (t.extract m t.size) = (bs t).drop m := by
        rw [bs_extract, List.take_of_length_le]
        rw [List.length_drop, bs_length]; omega
      have hadt : AllD (bs t) := by
        have : bs t = D.drop used.length := by rw [← Hsplit.out]; simp
        rw [this]; exact Had.out.drop _
      have hxl : (t.extract 0 m).size = m := by rw [← bs_length, hx1, List.length_take, bs_length]; omega
      have Hrc := hid (fun wx => readChunk_any (t.extract 0 m) wx (by rw [hxl]; exact hm2) (fun i hi => by rw [hx1]; exact hadt.take m i (by rw [List.length_take, bs_length]; omega)))
      have hchl : dval ((bs t).take m) < 10 ^ 19 := by
        have h5 := dval_lt ((bs t).take m) (hadt.take m)
        have h6 : ((bs t).take m).length = m := by rw [List.length_take, bs_length]; omega
        rw [h6] at h5
        exact Nat.lt_of_lt_of_le h5 (Nat.pow_le_pow_right (by omega) hm2)
      rw [hx1] at Hrc
      have hstep := read_step (used := used) (t := bs t) Hv.out (by rw [bs_length]; exact hp) Hmod.out
      rw [bs_length, hm] at hstep
      obtain ⟨ch, hch⟩ : ∃ ch, dval ((bs t).take m) = ch := ⟨_, rfl⟩
      rw [hch] at Hrc hchl hstep
      have hch' : ch < 10000000000000000000 := hchl
      have Hstep := hid hstep; have Hx2 := hid hx2; have Hm := hid hm; have Hadt := hid hadt
      have hlu : used.length + t.size ≤ 1000 := by
        have := congrArg List.length Hsplit.out
        rw [List.length_append, HDl.out, bs_length] at this; omega
      clear hm hx1 hx2 hadt hxl hchl hstep hch h0
      go_wp2_with fail
      refine (Hrc.out _).mono ?_
      rintro e w3 ⟨rfl, rfl⟩
      go_wp2_with fail
      refine (appendChunk_any ao l n c ch wr Hl.out hsg hd hc (by omega) hch').mono ?_
      rintro e w4 ⟨_, rfl, hnum, hx4⟩
      obtain ⟨a5, l5, n5, c5, rfl, hl5, hn5, hc5, hs5, hd5, hr5, hv5⟩ := hnum.named
      have hv6 : val l5 = dval (used ++ (bs t).take m) := by rw [hv5]; exact Hstep.out
      have hn6 : n5 ≤ 1000 := by
        rw [← hl5]
        apply lt_len hr5
        rw [hv6]
        have h7 : AllD (used ++ (bs t).take m) := by
          have : used ++ (bs t).take m = D.take (used.length + m) := by
            rw [← Hsplit.out]; exact (take_app used (bs t) m).symm
          rw [this]; exact Had.out.take _
        have h8 := dval_lt _ h7
        have h9 : (used ++ (bs t).take m).length ≤ 1000 := by rw [List.length_append, List.length_take, bs_length]; omega
        exact Nat.lt_of_lt_of_le h8 (Nat.le_trans (Nat.pow_le_pow_right (by omega) h9) (ten_le 1000))
      have Hl5 := hid hl5; have Hv6 := hid hv6
      clear hl5 hv5 hv6 hnum
      go_wp2_with fail
      go_roundw
      case rel => exact ⟨t.extract m t.size, used ++ (bs t).take m, a5, l5, n5, c5, rfl, rfl, by rw [Hx2.out, List.append_assoc, List.take_append_drop]; exact Hsplit.out, Or.inr (by rw [Hx2.out, List.length_drop, bs_length]; have := Hm.out; omega), Hl5.out, hn5, hc5, hs5, hd5, hn6, Hv6.out, hEr.trans hx4⟩
      case measure =>
        show (t.extract m t.size).size < t.size
        rw [← bs_length, Hx2.out, List.length_drop, bs_length]; omega

end Go.Proofs.YtldkomeacocjbaaGreatDoor
namespace Go.Proofs.YtldkomeacocjbaaGreatDoor

/-- n digits of v, noughts ahead. -/
def padD (n v : Nat) : List UInt8 := (List.range n).map fun t => Lib.dg v (n - 1 - t)

theorem padD_length (n v : Nat) : (padD n v).length = n := by simp [padD]

theorem dg_up (v n j : Nat) : Lib.dg v (n + j) = Lib.dg (v / 10 ^ n) j := by
  unfold Lib.dg
  rw [Nat.pow_add, Nat.div_div_eq_div_mul]

theorem dg_low (v n j : Nat) (h : j < n) : Lib.dg (v % 10 ^ n) j = Lib.dg v j := by
  unfold Lib.dg
  obtain ⟨k, rfl⟩ : ∃ k, n = j + (k + 1) := ⟨n - j - 1, by omega⟩
  have e : v % 10 ^ (j + (k + 1)) / 10 ^ j % 10 = v / 10 ^ j % 10 := by
    rw [Nat.pow_add, Nat.mod_mul_right_div_self, Nat.pow_succ, Nat.mul_comm (10 ^ k) 10, Nat.mod_mul_right_mod]
  rw [e]

theorem padD_append (m n v : Nat) : padD (m + n) v = padD m (v / 10 ^ n) ++ padD n (v % 10 ^ n) := by
  unfold padD
  rw [List.range_add, List.map_append, List.map_map]
  congr 1
  · refine List.map_congr_left fun t ht => ?_
    have ht' : t < m := List.mem_range.1 ht
    rw [show m + n - 1 - t = n + (m - 1 - t) by omega, dg_up]
  · refine List.map_congr_left fun t ht => ?_
    have ht' : t < n := List.mem_range.1 ht
    show Lib.dg v (m + n - 1 - (m + t)) = _
    rw [show m + n - 1 - (m + t) = n - 1 - t by omega, dg_low _ _ _ (by omega)]

theorem decDigits_pad (u : Nat) : Lib.decDigits u = padD (Lib.nDigits u) u := Lib.decDigits_eq u

theorem nDigits_div (n v : Nat) (h : 0 < v / 10 ^ n) : Lib.nDigits v = Lib.nDigits (v / 10 ^ n) + n := by
  induction n generalizing v with
  | zero => simp
  | succ n ih =>
    rw [Nat.pow_succ, Nat.mul_comm, ← Nat.div_div_eq_div_mul] at h ⊢
    have h10 : ¬ v < 10 := by
      intro hv
      rw [Nat.div_eq_of_lt hv, Nat.zero_div] at h
      exact Nat.lt_irrefl _ h
    rw [Lib.nDigits_big h10, ih (v / 10) h]
    omega

theorem decDigits_append (n v : Nat) (h : 0 < v / 10 ^ n) : Lib.decDigits v = Lib.decDigits (v / 10 ^ n) ++ padD n (v % 10 ^ n) := by
  rw [decDigits_pad v, nDigits_div n v h, padD_append, ← decDigits_pad]

theorem padD_zero (n : Nat) : padD n 0 = List.replicate n 48 := by
  unfold padD
  apply List.ext_getElem
  · simp
  · intro i h1 h2
    simp [Lib.dg]

theorem padD_fill (n v : Nat) (h : Lib.nDigits v ≤ n) : padD n v = List.replicate (n - Lib.nDigits v) 48 ++ Lib.decDigits v := by
  obtain ⟨m, rfl⟩ : ∃ m, n = m + Lib.nDigits v := ⟨n - Lib.nDigits v, by omega⟩
  have hlt := Lib.lt_pow_nDigits v
  rw [padD_append, Nat.div_eq_of_lt hlt, Nat.mod_eq_of_lt hlt, padD_zero, Nat.add_sub_cancel, ← decDigits_pad]

theorem nDigits_le (n v : Nat) (hn : 1 ≤ n) (h : v < 10 ^ n) : Lib.nDigits v ≤ n := by
  induction n generalizing v with
  | zero => omega
  | succ n ih =>
    by_cases h10 : v < 10
    · rw [Lib.nDigits_small h10]; exact hn
    · rw [Lib.nDigits_big h10]
      rw [Nat.pow_succ] at h
      have h1 : 1 ≤ n := by
        cases n with
        | zero => simp at h; omega
        | succ k => omega
      have := ih (v / 10) h1 (by omega)
      omega

end Go.Proofs.YtldkomeacocjbaaGreatDoor
namespace Go.Proofs.YtldkomeacocjbaaGreatDoor
open Go.RowKit

theorem bs_mk (l : List UInt8) : bs ⟨l.toArray⟩ = l.map UInt8.toNat := by simp [bs]

theorem allD_of_dcount (l : List Nat) (h : dcount l = l.length) : AllD l := by
  induction l with
  | nil => intro t ht; simp at ht
  | cons x r ih =>
    by_cases hx : isD x = true
    · have h2 : dcount r = r.length := by
        unfold dcount at h ⊢
        rw [List.takeWhile_cons, if_pos hx] at h
        simpa using h
      intro t ht
      cases t with
      | zero => simpa using hx
      | succ k => have := ih h2 k (by simpa using ht); simpa using this
    · unfold dcount at h
      rw [List.takeWhile_cons, if_neg hx] at h
      simp at h

theorem dcount_of_allD (l : List Nat) (h : AllD l) : dcount l = l.length :=
  dcount_of l _ (Nat.le_refl _) h (Or.inl rfl)

/-- What is scanned whole is digits behind a sign. -/
theorem allD_of_scan (l : List Nat) (h1 : (scanN l).2 = true) (h2 : ¬ (scanN l).1 < l.length) : AllD (l.drop (sgl l)) := by
  unfold scanN at h1 h2
  by_cases h48 : 0 < l.length ∧ l.getD 0 0 = 48
  · rw [if_pos h48] at h2
    have hl : l.length = 1 := by have := h48.1; simp at h2; omega
    obtain ⟨x, rfl⟩ := List.length_eq_one_iff.1 hl
    have hx : x = 48 := by simpa using h48.2
    subst hx
    have : sgl [48] = 0 := by decide
    rw [this]
    intro t ht
    have ht0 : t = 0 := by simpa using ht
    subst ht0
    decide
  · rw [if_neg h48] at h1 h2
    have hle := spos_le (l.drop (sgl l))
    have hsl := sgl_le l
    have hdl : (l.drop (sgl l)).length = l.length - sgl l := List.length_drop
    have hpos : 0 < spos (l.drop (sgl l)) := by simpa using h1
    have hall : spos (l.drop (sgl l)) = (l.drop (sgl l)).length := by
      simp only [Nat.not_lt] at h2; omega
    unfold spos at hall hpos
    split at hall
    · rename_i hc
      rw [if_pos hc] at hpos
      exact absurd hpos (Nat.lt_irrefl _)
    · exact allD_of_dcount _ hall

theorem digit_toNat (k : Nat) (h : k < 10) : (UInt8.ofNat (48 + k)).toNat = 48 + k := by
  rw [UInt8.toNat_ofNat']
  omega

/-- The digits' bytes, as numbers. -/
def decN (v : Nat) : List Nat := (Lib.decDigits v).map UInt8.toNat
theorem decN_small {v : Nat} (h : v < 10) : decN v = [48 + v] := by
  unfold decN
  rw [Lib.decDigits, dif_pos h, List.map_cons, List.map_nil, digit_toNat v h]
theorem decN_big {v : Nat} (h : ¬ v < 10) : decN v = decN (v / 10) ++ [48 + v % 10] := by
  unfold decN
  rw [Lib.decDigits, dif_neg h, List.map_append, List.map_cons, List.map_nil, digit_toNat (v % 10) (by omega)]
theorem decN_length (v : Nat) : (decN v).length = Lib.nDigits v := by unfold decN; rw [List.length_map, Lib.decDigits_length]

theorem decN_dval (v : Nat) : dval (decN v) = v := by
  induction v using Nat.strongRecOn with
  | _ v ih =>
    by_cases h : v < 10
    · rw [decN_small h]; simp [dval]
    · rw [decN_big h, dval_snoc, ih (v / 10) (by omega)]; omega

theorem allD_snoc (l : List Nat) (x : Nat) (h : AllD l) (hx : isD x = true) : AllD (l ++ [x]) := by
  intro t ht
  rw [List.length_append] at ht
  by_cases h1 : t < l.length
  · have := h t h1
    rw [List.getD_eq_getElem?_getD] at this ⊢
    rw [List.getElem?_append_left h1]; exact this
  · have ht1 : t = l.length := by simp at ht; omega
    subst ht1
    rw [List.getD_eq_getElem?_getD, List.getElem?_append_right (Nat.le_refl _)]
    simpa using hx

theorem isD_digit (k : Nat) (h : k < 10) : isD (48 + k) = true := by
  simp only [isD, decide_eq_true_eq]; omega

theorem decN_allD (v : Nat) : AllD (decN v) := by
  induction v using Nat.strongRecOn with
  | _ v ih =>
    by_cases h : v < 10
    · rw [decN_small h]
      exact allD_snoc [] _ (fun t ht => absurd ht (by simp)) (isD_digit v h)
    · rw [decN_big h]; exact allD_snoc _ _ (ih (v / 10) (by omega)) (isD_digit _ (by omega))

theorem decN_head (v : Nat) : ∃ d r, decN v = d :: r ∧ isD d = true ∧ (d = 48 → v = 0) := by
  induction v using Nat.strongRecOn with
  | _ v ih =>
    by_cases h : v < 10
    · exact ⟨48 + v, [], decN_small h, isD_digit v h, by omega⟩
    · obtain ⟨d, r, e, h1, h2⟩ := ih (v / 10) (by omega)
      exact ⟨d, r ++ [48 + v % 10], by rw [decN_big h, e]; rfl, h1, fun hd => by have := h2 hd; omega⟩

/-- A number's text. -/
def txt (z : Int) : List Nat := (Lib.itoa z).map UInt8.toNat
theorem txt_neg {z : Int} (h : z < 0) : txt z = 45 :: decN z.natAbs := by
  unfold txt Lib.itoa decN; rw [if_pos h]; rfl
theorem txt_pos {z : Int} (h : ¬ z < 0) : txt z = decN z.natAbs := by
  unfold txt Lib.itoa decN; rw [if_neg h]
  have : z.toNat = z.natAbs := by omega
  rw [this]

theorem spos_dec (v : Nat) (h : v ≠ 0) : spos (decN v) = (decN v).length := by
  obtain ⟨d, r, e, _, h2⟩ := decN_head v
  unfold spos
  rw [if_neg, dcount_of_allD _ (decN_allD v)]
  rw [e]
  rintro (hc | hc)
  · simp at hc
  · exact h (h2 (by simpa using hc))

theorem txt_sgl (z : Int) : sgl (txt z) = if z < 0 then 1 else 0 := by
  by_cases h : z < 0
  · rw [txt_neg h, if_pos h]; simp [sgl]
  · rw [txt_pos h, if_neg h]
    obtain ⟨d, r, e, h1, _⟩ := decN_head z.natAbs
    rw [e]
    simp only [isD, decide_eq_true_eq] at h1
    unfold sgl
    rw [if_neg (by simp; omega)]

theorem txt_drop (z : Int) : (txt z).drop (sgl (txt z)) = decN z.natAbs := by
  rw [txt_sgl]
  by_cases h : z < 0
  · rw [if_pos h, txt_neg h]; rfl
  · rw [if_neg h, txt_pos h]; rfl

theorem txt_scan (z : Int) : scanN (txt z) = ((txt z).length, true) := by
  have hd := txt_drop z
  obtain ⟨d, r, e, h1, h2⟩ := decN_head z.natAbs
  simp only [isD, decide_eq_true_eq] at h1
  unfold scanN
  by_cases h48 : 0 < (txt z).length ∧ (txt z).getD 0 0 = 48
  · rw [if_pos h48]
    by_cases h : z < 0
    · rw [txt_neg h] at h48; simp at h48
    · rw [txt_pos h] at h48 ⊢
      rw [e] at h48
      have h0 := h2 (by simpa using h48.2)
      rw [h0, decN_small (by omega)]; rfl
  · rw [if_neg h48, hd]
    have hz : z.natAbs ≠ 0 := by
      intro h0
      apply h48
      rw [txt_pos (by omega), h0, decN_small (by omega)]
      exact ⟨by simp, by simp⟩
    have hs := spos_dec _ hz
    have hl : 0 < (decN z.natAbs).length := by rw [e]; simp
    rw [hs]
    have hlen : sgl (txt z) + (decN z.natAbs).length = (txt z).length := by
      rw [txt_sgl]
      by_cases h : z < 0
      · rw [if_pos h, txt_neg h, List.length_cons]; omega
      · rw [if_neg h, txt_pos h]; omega
    rw [hlen, decide_eq_true hl]

/-- As many digits as Parse takes. -/
def limN : Nat := 1000
/-- What such numbers stay below. -/
def Lim : Nat := 10 ^ limN
theorem lim_le (k : Nat) (h : k ≤ 1000) : 10 ^ k ≤ Lim := by
  unfold Lim
  exact Nat.pow_le_pow_right (by decide) h
theorem lim_pos : 0 < Lim := by unfold Lim; exact Nat.pow_pos (by decide)

theorem txt_val (z : Int) : sgn (decide (0 < sgl (txt z))) (dval ((txt z).drop (sgl (txt z)))) = z := by
  rw [txt_drop, decN_dval, txt_sgl]
  by_cases h : z < 0
  · rw [if_pos h]; simp [sgn]; omega
  · rw [if_neg h]; simp [sgn]; omega

/-- What Parse reads. -/
def pz (l : List Nat) : Int := if (scanN l).2 = true ∧ ¬ (scanN l).1 < l.length ∧ ¬ 1000 < l.length - sgl l then sgn (decide (0 < sgl l)) (dval (l.drop (sgl l))) else 0
/-- Parse's fault. -/
def pcode (l : List Nat) : Nat := if (scanN l).2 = true ∧ ¬ (scanN l).1 < l.length then (if 1000 < l.length - sgl l then 2 else 0) else 1
def pat (l : List Nat) : Nat := if (scanN l).2 = true ∧ ¬ (scanN l).1 < l.length then 0 else (scanN l).1

theorem pz_lt (l : List Nat) : (pz l).natAbs < Lim := by
  unfold pz
  split
  · rename_i h
    have ha := allD_of_scan l h.1 h.2.1
    have h1 := dval_lt _ ha
    rw [List.length_drop] at h1
    have h2 := lim_le (l.length - sgl l) (by omega)
    have h3 : (sgn (decide (0 < sgl l)) (dval (l.drop (sgl l)))).natAbs = dval (l.drop (sgl l)) := by
      unfold sgn; split <;> simp
    rw [h3]
    exact Nat.lt_of_lt_of_le h1 h2
  · exact lim_pos

end Go.Proofs.YtldkomeacocjbaaGreatDoor
namespace Go.Proofs.YtldkomeacocjbaaGreatDoor
open Go.RowKit

/-- All words stand where they stood. -/
def Keep64 (w w' : World) : Prop := w.heap.size ≤ w'.heap.size ∧ ∀ b o x, w.cell? ⟨b, o, none⟩ = some (.int .u64 x) → w'.cell? ⟨b, o, none⟩ = some (.int .u64 x)

theorem Keep64.refl (w : World) : Keep64 w w := ⟨Nat.le_refl _, fun _ _ _ h => h⟩
theorem Keep64.trans {a b c : World} (h : Keep64 a b) (k : Keep64 b c) : Keep64 a c := ⟨Nat.le_trans h.1 k.1, fun _ _ _ q => k.2 _ _ _ (h.2 _ _ _ q)⟩
theorem Keep64.ext {w w' : World} (h : Ext w w') : Keep64 w w' :=
  ⟨h.size, fun b o _ q => (h.cell (p := ⟨b, o, none⟩) (World.block_lt_of_cell? w ⟨b, o, none⟩ q)).trans q⟩

theorem Seg.keep64 {w w' : World} {ao : Option Addr} {l : List Nat} (h : Seg w ao l) (k : Keep64 w w') : Seg w' ao l := by
  rcases h with h | ⟨b, o, rfl, hb, hc⟩
  · exact Or.inl h
  · exact Or.inr ⟨b, o, rfl, Nat.lt_of_lt_of_le hb k.1, fun t ht => k.2 _ _ _ (hc t ht)⟩

theorem IsInt.keep64 {w w' : World} {sm : Int} {ao : Option Addr} {n c : Nat} {z : Int} (h : IsInt w sm ao n c z) (k : Keep64 w w') : IsInt w' sm ao n c z := by
  rcases h with h | ⟨b, o, l, h1, h2, h3, h4, h5, h6⟩
  · exact Or.inl h
  · exact Or.inr ⟨b, o, l, h1, h2, h3, h4, h5.keep64 k, h6⟩

/-- There is something at p, and it is no word. -/
def NotW (w : World) (p : Addr) : Prop := ∃ u, w.cell? p = some u ∧ ∀ x, u ≠ .int .u64 x

theorem NotW.i64 {w : World} {p : Addr} {x : Int} (h : w.cell? p = some (.int .i64 x)) : NotW w p := ⟨_, h, fun _ h => by cases h⟩
theorem NotW.slice {w : World} {p : Addr} {a : Option Addr} {n c : Nat} (h : w.cell? p = some (.slice a n c)) : NotW w p := ⟨_, h, fun _ h => by cases h⟩

theorem NotW.set {w : World} {p q : Addr} {v : Value} (h : NotW w q) (hp : NotW w p) (hv : ∀ x, v ≠ .int .u64 x) : NotW (w.setCell p v) q := by
  by_cases e : q = p
  · subst e
    obtain ⟨u, hu, _⟩ := hp
    exact ⟨v, World.cell?_setCell_same _ _ _ hu, hv⟩
  · obtain ⟨u, hu, h2⟩ := h
    exact ⟨u, by rw [World.cell?_setCell_other _ _ _ _ (fun h => e h.symm)]; exact hu, h2⟩

theorem Keep64.set {a w : World} {p : Addr} (h : Keep64 a w) (hp : NotW w p) (v : Value) : Keep64 a (w.setCell p v) := by
  refine h.trans ⟨by simp [World.setCell], fun b o x hx => ?_⟩
  by_cases e : (⟨b, o, none⟩ : Addr) = p
  · subst e
    obtain ⟨u, hu, h2⟩ := hp
    rw [hu] at hx
    simp only [Option.some.injEq] at hx
    exact absurd hx (h2 x)
  · rw [World.cell?_setCell_other _ _ _ _ (fun h => e h.symm)]; exact hx

theorem notW_i64 (x y : Int) : Value.int .i64 x ≠ .int .u64 y := by intro h; cases h
theorem notW_slice (a : Option Addr) (n c : Nat) (y : Int) : Value.slice a n c ≠ .int .u64 y := by intro h; cases h

theorem Keep64.set2 {w : World} {p q : Addr} {u : Value} (hp : NotW w p) (hq : NotW w q) (hu : ∀ x, u ≠ .int .u64 x) (v : Value) : Keep64 w ((w.setCell p u).setCell q v) :=
  ((Keep64.refl w).set hp u).set (hq.set hp hu) v

theorem Keep64.set4 {w : World} {p q r s : Addr} {u v x : Value} (hp : NotW w p) (hq : NotW w q) (hr : NotW w r) (hs : NotW w s) (hu : ∀ y, u ≠ .int .u64 y) (hv : ∀ y, v ≠ .int .u64 y) (hx : ∀ y, x ≠ .int .u64 y) (t : Value) :
    Keep64 w ((((w.setCell p u).setCell q v).setCell r x).setCell s t) :=
  (Keep64.set2 hp hq hu v).trans (Keep64.set2 ((hr.set hp hu).set (hq.set hp hu) hv) ((hs.set hp hu).set (hq.set hp hu) hv) hx t)

theorem Ext.set {w W : World} {p : Addr} (h : Ext w W) (hg : w.heap.size ≤ p.block) (u : Value) : Ext w (W.setCell p u) := Below.setCell h hg u

/-- The cells of a fault that is answered. -/
structure FRes (W : World) (g : Nat) : Prop where
  lt : g < W.heap.size
  row : W.heap[g]? = some (.cells #[.int .i64 0, .int .i64 0] 30 (0, 0))
theorem FRes.ext {W W' : World} {g : Nat} (h : FRes W g) (k : Ext W W') : FRes W' g := ⟨Nat.lt_of_lt_of_le h.lt k.size, (k.block _ h.lt).trans h.row⟩
theorem FRes.c0 {W : World} {g : Nat} (h : FRes W g) : W.cell? ⟨g, 0, none⟩ = some (.int .i64 0) := by rw [cell_of_row W g 0 _ _ (0, 0) h.row]; rfl
theorem FRes.c1 {W : World} {g : Nat} (h : FRes W g) : W.cell? ⟨g, 1, none⟩ = some (.int .i64 0) := by rw [cell_of_row W g 1 _ _ (0, 0) h.row]; rfl
theorem FRes.f0 {W : World} {g : Nat} (h : FRes W g) : W.frozen? ⟨g, 0, none⟩ = false := frozen_of_row W g 0 _ _ h.row
theorem FRes.f1 {W : World} {g : Nat} (h : FRes W g) : W.frozen? ⟨g, 1, none⟩ = false := frozen_of_row W g 1 _ _ h.row

set_option maxHeartbeats 800000 in
set_option maxRecDepth 100000 in
theorem Parse_any (s : ByteArray) (w : World) (hs : s.size ≤ 9223372036854775807) :
    Calls Tryz.prog 137 #[.string s] w fun e w' => ∃ (sm : Int) (a' : Option Addr) (n' c' : Nat), e = .returned (.tuple #[.agg #[.int .i64 sm, .slice a' n' c'], .agg #[.int .i64 (pcode (bs s) : Nat), .int .i64 (pat (bs s) : Nat)]]) ∧ IsInt w' sm a' n' c' (pz (bs s)) ∧ Ext w w' := by
  have Hscan := hid (fun wx => scanNumber_any s wx hs)
  have Hlong := hid (fun wx => tooLong_any s wx hs)
  have hlen := bs_length s
  obtain ⟨en, hen⟩ : ∃ en, (scanN (bs s)).1 = en := ⟨_, rfl⟩
  obtain ⟨ok, hok⟩ : ∃ ok, (scanN (bs s)).2 = ok := ⟨_, rfl⟩
  rw [hen, hok] at Hscan
  by_cases hbad : ok = true ∧ ¬ en < s.size
  · obtain ⟨rfl, hlt⟩ := hbad
    have hil : ¬ ((en : Nat) : Int) < (s.size : Int) := by omega
    by_cases hlg : 1000 < s.size - sgl (bs s)
    · have Hz : Hid (pz (bs s) = 0) := by show _ = _; unfold pz; rw [if_neg]; rw [hlen]; exact fun h => h.2.2 hlg
      have Hc : Hid (pcode (bs s) = 2) := by show _ = _; unfold pcode; rw [if_pos ⟨hok, by rw [hen, hlen]; exact hlt⟩, if_pos (by rw [hlen]; exact hlg)]
      have Ha : Hid (pat (bs s) = 0) := by show _ = _; unfold pat; rw [if_pos ⟨hok, by rw [hen, hlen]; exact hlt⟩]
      rw [decide_eq_true hlg] at Hlong
      clear hlg hlt hen hok hlen
      rw [Hz.out, Hc.out, Ha.out]
      go_enter Tryz.func137, Tryz.ntmps137
      go_wp2_with fail
      refine (Hscan.out _).mono ?_
      rintro e w1 ⟨rfl, rfl⟩
      go_wp2_with fail
      refine (Hlong.out _).mono ?_
      rintro e w1 ⟨rfl, rfl⟩
      go_wp2_with fail
      exact bodyPost_ret (v := .tuple #[.agg #[.int .i64 0, .slice none 0 0], .agg #[.int .i64 2, .int .i64 0]]) (by simp [results, Tryz.results137, go_sem]) rfl ⟨0, none, 0, 0, rfl, IsInt.small _ _ (by omega) (by omega), (Ext.alloc _ _).then _⟩
    · have Hz : Hid (pz (bs s) = sgn (decide (0 < sgl (bs s))) (dval ((bs s).drop (sgl (bs s))))) := by show _ = _; unfold pz; rw [if_pos ⟨hok, by rw [hen, hlen]; exact hlt, by rw [hlen]; exact hlg⟩]
      have Hc : Hid (pcode (bs s) = 0) := by show _ = _; unfold pcode; rw [if_pos ⟨hok, by rw [hen, hlen]; exact hlt⟩, if_neg (by rw [hlen]; exact hlg)]
      have Ha : Hid (pat (bs s) = 0) := by show _ = _; unfold pat; rw [if_pos ⟨hok, by rw [hen, hlen]; exact hlt⟩]
      have Hread := hid (fun wx => readNumber_any s wx (by rw [hlen]; omega) (allD_of_scan _ hok (by rw [hen, hlen]; exact hlt)))
      rw [decide_eq_false hlg] at Hlong
      clear hlg hlt hen hok hlen
      rw [Hc.out, Ha.out]
      have hR : Res ((w.alloc (.cells #[.int .i64 0, .slice none 0 0] 24)).alloc (.cells #[.int .i64 0, .int .i64 0] 30)) w.heap.size :=
        ⟨by simp; omega, (Below.heap_alloc _ _ _ (by simp)).trans (heap_alloc_new w _)⟩
      have hF : FRes ((w.alloc (.cells #[.int .i64 0, .slice none 0 0] 24)).alloc (.cells #[.int .i64 0, .int .i64 0] 30)) (w.heap.size + 1) := by
        refine ⟨by simp, ?_⟩
        have := heap_alloc_new (w.alloc (.cells #[.int .i64 0, .slice none 0 0] 24)) (.cells #[.int .i64 0, .int .i64 0] 30)
        simpa using this
      have hE : Ext w ((w.alloc (.cells #[.int .i64 0, .slice none 0 0] 24)).alloc (.cells #[.int .i64 0, .int .i64 0] 30)) := (Ext.alloc _ _).then _
      go_enter Tryz.func137, Tryz.ntmps137
      go_wp2_with fail
      generalize (w.alloc (.cells #[.int .i64 0, .slice none 0 0] 24)).alloc (.cells #[.int .i64 0, .int .i64 0] 30) = W0 at *
      refine (Hscan.out _).mono ?_
      rintro e w1 ⟨rfl, rfl⟩
      go_wp2_with fail
      refine (Hlong.out _).mono ?_
      rintro e w1 ⟨rfl, rfl⟩
      go_wp2_with fail
      refine (Hread.out _).mono ?_
      rintro e w3 ⟨s4, a4, n4, c4, rfl, hI4, he4⟩
      have hr4 := hR.ext he4; have hf4 := hF.ext he4
      have k0 := hr4.c0; have k1 := hr4.c1; have g0 := hr4.f0; have g1 := hr4.f1
      have k2 := hf4.c0; have k3 := hf4.c1; have g2 := hf4.f0; have g3 := hf4.f1
      go_wp2_with fail
      exact bodyPost_ret (v := .tuple #[.agg #[.int .i64 s4, .slice a4 n4 c4], .agg #[.int .i64 0, .int .i64 0]]) (by simp [results, Tryz.results137, go_sem, k0, k1, k2, k3]) rfl
        ⟨s4, a4, n4, c4, rfl, (hI4.cast Hz.out.symm).keep64 (Keep64.set4 (.i64 k0) (.slice k1) (.i64 k2) (.i64 k3) (notW_i64 _) (notW_slice _ _ _) (notW_i64 _) _), ((((hE.trans he4).set (Nat.le_refl _) _).set (Nat.le_refl _) _).set (Nat.le_succ _) _).set (Nat.le_succ _) _⟩
  · have Hz : Hid (pz (bs s) = 0) := by show _ = _; unfold pz; rw [if_neg]; rw [hok, hen, hlen]; exact fun h => hbad ⟨h.1, h.2.1⟩
    have Hc : Hid (pcode (bs s) = 1) := by show _ = _; unfold pcode; rw [if_neg]; rw [hok, hen, hlen]; exact hbad
    have Ha : Hid (pat (bs s) = en) := by show _ = _; unfold pat; rw [if_neg, hen]; rw [hok, hen, hlen]; exact hbad
    rw [Hz.out, Hc.out, Ha.out]
    have hcase : ok = false ∨ (ok = true ∧ ((en : Nat) : Int) < (s.size : Int)) := by
      cases ok
      · exact Or.inl rfl
      · right; refine ⟨rfl, ?_⟩
        have : en < s.size := Decidable.byContradiction fun h => hbad ⟨rfl, h⟩
        omega
    clear hbad hen hok hlen
    rcases hcase with rfl | ⟨rfl, hil⟩
    all_goals
      go_enter Tryz.func137, Tryz.ntmps137
      go_wp2_with fail
      refine (Hscan.out _).mono ?_
      rintro e w1 ⟨rfl, rfl⟩
      go_wp2_with fail
      exact bodyPost_ret (v := .tuple #[.agg #[.int .i64 0, .slice none 0 0], .agg #[.int .i64 1, .int .i64 (en : Nat)]]) (by simp [results, Tryz.results137, go_sem]) rfl ⟨0, none, 0, 0, rfl, IsInt.small _ _ (by omega) (by omega), (Ext.alloc _ _).then _⟩

end Go.Proofs.YtldkomeacocjbaaGreatDoor
namespace Go.Proofs.YtldkomeacocjbaaGreatDoor
open Go.RowKit

theorem Ext.put {w W : World} {g o : Nat} (h : Ext w W) (hg : w.heap.size ≤ g) (u : Value) : Ext w (W.setCell ⟨g, o, none⟩ u) := Below.setCell h (p := ⟨g, o, none⟩) hg u
theorem Ext.put2 {w W : World} {g o o' : Nat} (h : Ext w W) (hg : w.heap.size ≤ g) (u v : Value) : Ext w ((W.setCell ⟨g, o, none⟩ u).setCell ⟨g, o', none⟩ v) := (h.put hg u).put hg v

theorem Of_from {w : World} (n : Int) (h1 : -9223372036854775808 ≤ n) (h2 : n ≤ 9223372036854775807) : ∀ wx : World, Ext w wx → Calls Tryz.prog 44 #[.int .i64 n] wx fun e w' => e = .returned (.agg #[.int .i64 n, .slice none 0 0]) ∧ Ext w w' ∧ Ext wx w' :=
  fun wx hx => (Of_any n h1 h2 wx).mono fun _ _ h => ⟨h.1, hx.trans h.2.2, h.2.2⟩

end Go.Proofs.YtldkomeacocjbaaGreatDoor
namespace Go.Proofs.YtldkomeacocjbaaGreatDoor
open Go.RowKit

theorem cellKeep {W w' : World} (h : Ext W w') {b o : Nat} {v : Value} (hb : b < W.heap.size) (hc : W.cell? ⟨b, o, none⟩ = some v) : w'.cell? ⟨b, o, none⟩ = some v := (h.cell (p := ⟨b, o, none⟩) hb).trans hc
theorem cellPut {w' : World} {g o' b o : Nat} {u v : Value} (hne : b ≠ g) (hc : w'.cell? ⟨b, o, none⟩ = some v) : (w'.setCell ⟨g, o', none⟩ u).cell? ⟨b, o, none⟩ = some v := by
  have hO : Only g w' (w'.setCell ⟨g, o', none⟩ u) := (Only.refl _ _).setCell _ _
  exact (World.cell?_of_block (a := ⟨b, o, none⟩) (hO.block _ hne)).trans hc

theorem Sub_from {w : World} {s1 : Int} {a1 : Option Addr} {n1 c1 : Nat} {z1 : Int} (h1 : IsInt w s1 a1 n1 c1 z1) (K : Nat) (hK : K ≤ 4194304) (hf1 : Fit K z1) : ∀ (wx : World) (s2 : Int) (a2 : Option Addr) (n2 c2 : Nat) (z2 : Int), Ext w wx → IsInt wx s2 a2 n2 c2 z2 → Fit K z2 →
    Calls Tryz.prog 78 #[.agg #[.int .i64 s1, .slice a1 n1 c1], .agg #[.int .i64 s2, .slice a2 n2 c2]] wx fun e w' =>
    ∃ (s' : Int) (a' : Option Addr) (n' c' : Nat), e = .returned (.agg #[.int .i64 s', .slice a' n' c']) ∧ IsInt w' s' a' n' c' (z1 - z2) ∧ Ext w w' ∧ Ext wx w' :=
  fun wx s2 a2 n2 c2 z2 hx h2 hf2 => (Sub_any s1 s2 a1 a2 n1 c1 n2 c2 z1 z2 wx (h1.ext hx) h2 K hK hf1 hf2).mono fun _ _ ⟨s', a', n', c', e1, e2, e3⟩ => ⟨s', a', n', c', e1, e2, hx.trans e3, e3⟩

theorem Fit.le {k : Nat} {x y : Int} (h : Fit k y) (hx : x.natAbs ≤ y.natAbs) : Fit k x := by unfold Fit at *; omega
theorem Fit.one {k : Nat} (h : 1 ≤ k) : Fit k 1 := by
  unfold Fit
  have h1 : B64 ^ 1 ≤ B64 ^ k := Nat.pow_le_pow_right B64_pos h
  rw [Nat.pow_one] at h1
  have h2 : 1 < B64 := by rw [B64_eq]; decide
  exact Nat.lt_of_lt_of_le h2 h1

end Go.Proofs.YtldkomeacocjbaaGreatDoor
namespace Go.Proofs.YtldkomeacocjbaaGreatDoor
open Go.RowKit

theorem shr_small (s : Int) (k : Nat) (h1 : -9223372036854775808 ≤ s) (h2 : s ≤ 9223372036854775807) : s / 2 ^ min k 64 = s / 2 ^ k := by
  by_cases hk : k ≤ 64
  · rw [Nat.min_eq_left hk]
  · rw [Nat.min_eq_right (by omega)]
    have hp : ∀ j : Nat, 64 ≤ j → s / 2 ^ j = if s < 0 then -1 else 0 := by
      intro j hj
      have h3 : (2 : Int) ^ 64 ≤ 2 ^ j := by
        have : (2 : Nat) ^ 64 ≤ 2 ^ j := Nat.pow_le_pow_right (by decide) hj
        exact_mod_cast this
      generalize (2 : Int) ^ j = p at *
      have h4 : (18446744073709551616 : Int) ≤ p := h3
      by_cases hs : s < 0
      · rw [if_pos hs]
        exact ((Int.ediv_emod_unique (r := s + p) (by omega)).2 ⟨by omega, by omega, by omega⟩).1
      · rw [if_neg hs]
        exact Int.ediv_eq_zero_of_lt (by omega) (by omega)
    rw [hp 64 (by omega), hp k (by omega)]

theorem neg_div (v p : Nat) (hp : 0 < p) : (-(v : Int)) / (p : Int) = if v % p = 0 then -((v / p : Nat) : Int) else -((v / p : Nat) : Int) - 1 := by
  have h := Nat.div_add_mod v p
  have hl := Nat.mod_lt v hp
  have h' : (p : Int) * ((v / p : Nat) : Int) + ((v % p : Nat) : Int) = (v : Int) := by exact_mod_cast h
  split
  · rename_i h0
    rw [h0] at h'
    refine ((Int.ediv_emod_unique (r := 0) (by omega)).2 ⟨?_, by omega, by omega⟩).1
    rw [Int.mul_neg]; omega
  · rename_i h0
    refine ((Int.ediv_emod_unique (r := (p : Int) - ((v % p : Nat) : Int)) (by omega)).2 ⟨?_, by omega, by omega⟩).1
    rw [Int.mul_sub, Int.mul_neg, Int.mul_one]; omega

/-- Where a shift there and back gives the number again, it has lost nothing. -/
theorem shl_back (s : Int) (k : Nat) (h : IntKind.i64.wrap (s * 2 ^ min k 64) / 2 ^ min k 64 = s) : IntKind.i64.wrap (s * 2 ^ min k 64) = s * 2 ^ k := by
  by_cases hk : k ≤ 63
  · have hm : min k 64 = k := Nat.min_eq_left (by omega)
    rw [hm] at h ⊢
    obtain ⟨d, hd⟩ : ∃ d, 64 = k + d := ⟨64 - k, by omega⟩
    have hp : (0 : Int) < 2 ^ k := Int.pow_pos (by decide)
    have e : (18446744073709551616 : Int) = 2 ^ k * 2 ^ d := by
      rw [← Int.pow_add, ← hd]; decide
    have hdv : IntKind.i64.wrap (s * 2 ^ k) % 2 ^ k = 0 := by
      have hw : ∃ t : Int, IntKind.i64.wrap (s * 2 ^ k) = s * 2 ^ k + 18446744073709551616 * t := by
        rw [IntKind.wrap_i64]
        refine ⟨-((s * 2 ^ k + 9223372036854775808) / 18446744073709551616), ?_⟩
        have := Int.mul_ediv_add_emod (s * 2 ^ k + 9223372036854775808) 18446744073709551616
        omega
      obtain ⟨t, ht⟩ := hw
      rw [ht, e, Int.mul_comm s, Int.mul_assoc, ← Int.mul_add]
      exact Int.mul_emod_right _ _
    have h3 := Int.mul_ediv_add_emod (IntKind.i64.wrap (s * 2 ^ k)) (2 ^ k)
    rw [h, hdv, Int.add_zero, Int.mul_comm] at h3
    exact h3.symm
  · have hm : min k 64 = 64 := Nat.min_eq_right (by omega)
    rw [hm] at h ⊢
    have hw : IntKind.i64.wrap (s * 2 ^ 64) = 0 := by
      rw [IntKind.wrap_i64]; omega
    rw [hw] at h ⊢
    have : s = 0 := by rw [← h]; decide
    rw [this, Int.zero_mul]

theorem sgn_pow (b : Bool) (x k : Nat) : sgn b (x * 2 ^ k) = sgn b x * 2 ^ k := by
  cases b <;> simp [sgn, Int.neg_mul]

theorem shiftUp_from {w : World} (k : Nat) (hk : k ≤ 1073741824) : ∀ (wx : World) (a : Option Addr) (l : List Nat) (n c : Nat), Ext w wx → l.length = n → Seg wx a l → Dig l → n ≤ c → n ≤ 1073741824 →
    Calls Tryz.prog 148 #[.slice a n c, .int .u64 k] wx fun e w' => ∃ (a' : Option Addr) (l' : List Nat) (n' c' : Nat), e = .returned (.slice a' n' c') ∧ l'.length = n' ∧ n' ≤ c' ∧ c' ≤ maxLen ∧ Seg w' a' l' ∧ Dig l' ∧ Nrm l' ∧ Hid (val l' = val l * 2 ^ k) ∧ Ext w w' ∧ Ext wx w' :=
  fun wx a l n c hx h1 h2 h3 h4 h5 => (shiftUp_any a l n c k wx h1 h2 h3 h4 h5 hk).mono fun _ _ ⟨v, k1, k2, k3⟩ => by
    obtain ⟨ao', l', c', rfl, h5, h6, h7, h8, h9, h10⟩ := k2
    exact ⟨ao', l', l'.length, c', k1, rfl, h5, h6, h7, h8, h9, h10, hx.trans k3, k3⟩

theorem shiftDown_from {w : World} (k : Nat) (hk : k ≤ 1073741824) : ∀ (wx : World) (a : Option Addr) (l : List Nat) (n c : Nat), Ext w wx → l.length = n → Seg wx a l → Dig l → n ≤ c → c ≤ maxLen → n ≤ 1073741824 →
    Calls Tryz.prog 147 #[.slice a n c, .int .u64 k] wx fun e w' => ∃ (a' : Option Addr) (l' : List Nat) (n' c' : Nat), e = .returned (.slice a' n' c') ∧ l'.length = n' ∧ n' ≤ c' ∧ c' ≤ maxLen ∧ Seg w' a' l' ∧ Dig l' ∧ Nrm l' ∧ Hid (val l' = val l / 2 ^ k) ∧ Ext w w' ∧ Ext wx w' :=
  fun wx a l n c hx h1 h2 h3 h4 h4' h5 => (shiftDown_any a l n c k wx h1 h2 h3 h4 h4' h5 hk).mono fun _ _ ⟨v, k1, k2, k3⟩ => by
    obtain ⟨ao', l', c', rfl, h5, h6, h7, h8, h9, h10⟩ := k2
    exact ⟨ao', l', l'.length, c', k1, rfl, h5, h6, h7, h8, h9, h10, hx.trans k3, k3⟩

set_option maxHeartbeats 1600000 in
set_option maxRecDepth 100000 in
theorem double_any (sm : Int) (ao : Option Addr) (n c : Nat) (z : Int) (k : Nat) (w : World) (h : IsInt w sm ao n c z) (hk : k ≤ 1073741824) (K : Nat) (hK : K ≤ 4194304) (hf : Fit K z) :
    Calls Tryz.prog 124 #[.agg #[.int .i64 sm, .slice ao n c], .int .u64 k] w fun e w' => ∃ (s' : Int) (a' : Option Addr) (n' c' : Nat), e = .returned (.agg #[.int .i64 s', .slice a' n' c']) ∧ IsInt w' s' a' n' c' (z * 2 ^ k) ∧ Ext w w' := by
  have q1 := eql_nil ao n c 0 0
  have H := hid h; have Hf := hid hf
  have hzb := h.bool
  obtain ⟨u, hu⟩ : ∃ u, IntKind.i64.wrap (sm * 2 ^ min k 64) = u := ⟨_, rfl⟩
  obtain ⟨q, hq⟩ : ∃ q, u / 2 ^ min k 64 = q := ⟨_, rfl⟩
  by_cases hsh : ao = none ∧ q = sm
  · obtain ⟨rfl, rfl⟩ := hsh
    obtain ⟨rfl, rfl, rfl, r1, r2⟩ := h.none
    have hfin := shl_back q k (by rw [hu]; exact hq)
    rw [hu] at hfin
    have hur : -9223372036854775808 ≤ u ∧ u ≤ 9223372036854775807 := by rw [← hu, IntKind.wrap_i64]; omega
    rw [← hfin]
    have hno : (none : Option Addr).isNone = true := rfl
    clear h hf hzb hfin H Hf
    go_enter Tryz.func124, Tryz.ntmps124
    go_wp2
    exact bodyPost_ret (v := .agg #[.int .i64 u, .slice none 0 0]) (by simp [results, Tryz.results124, go_sem]) rfl ⟨u, none, 0, 0, rfl, IsInt.small _ _ hur.1 hur.2, (Ext.alloc _ _).then _⟩
  · obtain ⟨bb, hbb⟩ : ∃ bb, decide (sm < 0) = bb := ⟨_, rfl⟩
    have hcase : ao.isNone = false ∨ (ao = none ∧ (q == sm) = false) := by
      rcases ao with _ | a
      · right; refine ⟨rfl, ?_⟩; rw [beq_eq_false_iff_ne]; intro e; exact hsh ⟨rfl, e⟩
      · left; rfl
    rw [hbb] at hzb
    have Hzb := hid hzb; have Hbb := hid hbb
    clear hsh h hf hzb hbb
    rcases hcase with hno | ⟨rfl, hno⟩
    all_goals
      go_enter Tryz.func124, Tryz.ntmps124
      go_wp2_with fail
    · have hbx := boxes1 w (.int .i64 sm) (.slice ao n c)
      generalize (w.alloc (.cells #[.int .i64 sm, .slice ao n c] 24)).alloc (.cells #[.int .i64 0, .slice none 0 0] 24) = W0 at *
      have hB : w.heap.size < W0.heap.size := by have := hbx.size; omega
      have hnn := negative_from (w := W0) sm (.slice ao n c)
      rw [Hbb.out] at hnn
      have Hn := hid hnn; have Hw := hid (words_from (H.out.ext hbx.ext)); have Hsu := hid (shiftUp_from (w := W0) k hk); have Hfw := hid (fromWords_from (w := W0) bb)
      have hE0d : Ext W0 W0.drew := Below.drew (Ext.refl _)
      have c0 := hbx.c0; have c1 := hbx.c1
      clear hnn
      go_region_held3 (fun w' => w'.cell? ⟨w.heap.size, 0, none⟩ = some (.int .i64 sm) ∧ w'.cell? ⟨w.heap.size, 1, none⟩ = some (.slice ao n c))
        (refine ⟨?_, ?_⟩ <;> (repeat (refine cellPut (by omega) ?_)) <;> exact cellKeep (W := W0) (by assumption) (by omega) (by assumption))
        (first | (go_at_call 92; refine (Hn.out _ (by assumption)).mono ?_; rintro e w1 ⟨rfl, he1, hx1⟩) | (go_at_call 101; refine (Hw.out _ (by assumption)).mono ?_; rintro e w2 ⟨a2, l2, n2, c2, rfl, hl2, hn2, hc2, hs2, hd2, hm2, Hv2, he2, hx2⟩; have Hl2 := hid hl2; clear hl2) | (go_at_call 148; refine (Hsu.out _ a2 l2 n2 c2 (by assumption) Hl2.out (hs2.ext (Ext.refl _)) hd2 hn2 (by have := Hf.out.len hm2 Hv2.out; have := Hl2.out; omega)).mono ?_; rintro e w3 ⟨a3, l3, n3, c3, rfl, hl3, hn3, hc3, hs3, hd3, hm3, Hv3, he3, hx3⟩; have Hl3 := hid hl3; clear hl3) | (go_at_call 130; refine (Hfw.out _ a3 l3 n3 c3 (by assumption) Hl3.out hs3 hd3 hn3 hc3).mono ?_; rintro e w4 ⟨s4, a4, n4, c4, rfl, hI4, he4, hx4⟩; have hr4 := hbx.res.ext he4; have k0 := hr4.c0; have k1 := hr4.c1; have g0 := hr4.f0; have g1 := hr4.f1))
      go_wp2_with fail
      exact bodyPost_ret (v := .agg #[.int .i64 s4, .slice a4 n4 c4]) (by simp [results, Tryz.results124, go_sem, k0, k1]) rfl ⟨s4, a4, n4, c4, rfl, (hI4.cast (by rw [Hv3.out, Hv2.out, sgn_pow, ← Hzb.out])).keep64 (Keep64.set2 (.i64 k0) (.slice k1) (notW_i64 _) _), (hbx.ext.trans he4).put2 (by omega) _ _⟩
    · have hbx := boxes1 w (.int .i64 sm) (.slice none n c)
      generalize (w.alloc (.cells #[.int .i64 sm, .slice none n c] 24)).alloc (.cells #[.int .i64 0, .slice none 0 0] 24) = W0 at *
      have hB : w.heap.size < W0.heap.size := by have := hbx.size; omega
      have hnn := negative_from (w := W0) sm (.slice none n c)
      rw [Hbb.out] at hnn
      have Hn := hid hnn; have Hw := hid (words_from (H.out.ext hbx.ext)); have Hsu := hid (shiftUp_from (w := W0) k hk); have Hfw := hid (fromWords_from (w := W0) bb)
      have hE0d : Ext W0 W0.drew := Below.drew (Ext.refl _)
      have c0 := hbx.c0; have c1 := hbx.c1
      clear hnn
      go_region_held3 (fun w' => w'.cell? ⟨w.heap.size, 0, none⟩ = some (.int .i64 sm) ∧ w'.cell? ⟨w.heap.size, 1, none⟩ = some (.slice none n c))
        (refine ⟨?_, ?_⟩ <;> (repeat (refine cellPut (by omega) ?_)) <;> exact cellKeep (W := W0) (by assumption) (by omega) (by assumption))
        (first | (go_at_call 92; refine (Hn.out _ (by assumption)).mono ?_; rintro e w1 ⟨rfl, he1, hx1⟩) | (go_at_call 101; refine (Hw.out _ (by assumption)).mono ?_; rintro e w2 ⟨a2, l2, n2, c2, rfl, hl2, hn2, hc2, hs2, hd2, hm2, Hv2, he2, hx2⟩; have Hl2 := hid hl2; clear hl2) | (go_at_call 148; refine (Hsu.out _ a2 l2 n2 c2 (by assumption) Hl2.out (hs2.ext (Ext.refl _)) hd2 hn2 (by have := Hf.out.len hm2 Hv2.out; have := Hl2.out; omega)).mono ?_; rintro e w3 ⟨a3, l3, n3, c3, rfl, hl3, hn3, hc3, hs3, hd3, hm3, Hv3, he3, hx3⟩; have Hl3 := hid hl3; clear hl3) | (go_at_call 130; refine (Hfw.out _ a3 l3 n3 c3 (by assumption) Hl3.out hs3 hd3 hn3 hc3).mono ?_; rintro e w4 ⟨s4, a4, n4, c4, rfl, hI4, he4, hx4⟩; have hr4 := hbx.res.ext he4; have k0 := hr4.c0; have k1 := hr4.c1; have g0 := hr4.f0; have g1 := hr4.f1))
      go_wp2_with fail
      exact bodyPost_ret (v := .agg #[.int .i64 s4, .slice a4 n4 c4]) (by simp [results, Tryz.results124, go_sem, k0, k1]) rfl ⟨s4, a4, n4, c4, rfl, (hI4.cast (by rw [Hv3.out, Hv2.out, sgn_pow, ← Hzb.out])).keep64 (Keep64.set2 (.i64 k0) (.slice k1) (notW_i64 _) _), (hbx.ext.trans he4).put2 (by omega) _ _⟩

end Go.Proofs.YtldkomeacocjbaaGreatDoor
namespace Go.Proofs.YtldkomeacocjbaaGreatDoor
open Go.RowKit

/-- A number that a call has put into a variable of its own. -/
structure OutAt (W0 W : World) (g : Nat) (s : Int) (a : Option Addr) (n c : Nat) (z : Int) : Prop where
  ext : Ext W0 W
  lt : g < W.heap.size
  ge : W0.heap.size ≤ g
  o0 : W.cell? ⟨g, 0, none⟩ = some (.int .i64 s)
  o1 : W.cell? ⟨g, 1, none⟩ = some (.slice a n c)
  int : IsInt W s a n c z

theorem outLate {W0 w4 : World} {s : Int} {a : Option Addr} {n c : Nat} {z : Int} (he : Ext W0 w4) (hI : IsInt w4 s a n c z) : OutAt W0 (w4.alloc (.cells #[.int .i64 s, .slice a n c] 24)) w4.heap.size s a n c z :=
  ⟨he.then _, by simp, he.size, by simp, by simp, hI.ext (Ext.alloc _ _)⟩
theorem outEarly {W0 w4 : World} {g : Nat} {s : Int} {a : Option Addr} {n c : Nat} {z : Int} (he : Ext W0 w4) (hI : IsInt w4 s a n c z) (hg : W0.heap.size ≤ g) (hR : Res w4 g) : OutAt W0 ((w4.setCell ⟨g, 0, none⟩ (.int .i64 s)).setCell ⟨g, 1, none⟩ (.slice a n c)) g s a n c z := by
  have k0 := hR.c0; have k1 := hR.c1
  refine ⟨he.put2 hg _ _, by simp [World.setCell]; exact hR.lt, hg, ?_, ?_, hI.keep64 (Keep64.set2 (.i64 k0) (.slice k1) (notW_i64 _) _)⟩
  · rw [World.cell?_setCell_other _ _ _ _ (by simp), World.cell?_setCell_same _ _ _ k0]
  · refine World.cell?_setCell_same _ _ _ (u := .slice none 0 0) ?_
    rw [World.cell?_setCell_other _ _ _ _ (by simp)]; exact k1
theorem res_new (w : World) : Res (w.alloc (.cells #[.int .i64 0, .slice none 0 0] 24)) w.heap.size := ⟨by simp, heap_alloc_new w _⟩

theorem res_newd (w : World) : Res (w.alloc (.cells #[.int .i64 0, .slice none 0 0] 24)).drew w.heap.size := (res_new w).ext (Below.drew (Ext.refl _))

theorem sgn_div (b : Bool) (v k : Nat) (t : Nat) (h : Tw v t) : sgn b v / 2 ^ k = if b = true ∧ t < k then sgn b (v / 2 ^ k) - 1 else sgn b (v / 2 ^ k) := by
  have hp : 0 < 2 ^ k := Nat.pow_pos (by decide)
  have hd := h.dvd k
  cases b
  · simp [sgn]
  · have := neg_div v (2 ^ k) hp
    simp only [sgn, if_true]
    have e : ((2 ^ k : Nat) : Int) = 2 ^ k := by simp
    rw [e] at this
    rw [this]
    by_cases hk : t < k
    · rw [if_neg (fun h0 => by have := hd.1 h0; omega), if_pos ⟨trivial, hk⟩]
    · rw [if_pos (hd.2 (by omega)), if_neg (fun h0 => hk h0.2)]

set_option maxHeartbeats 1600000 in
set_option maxRecDepth 100000 in
theorem halve_any (sm : Int) (ao : Option Addr) (n c : Nat) (z : Int) (k : Nat) (w : World) (h : IsInt w sm ao n c z) (hk : k ≤ 1073741824) (K : Nat) (hK : K ≤ 4194304) (hK1 : 1 ≤ K) (hf : Fit K z) (hbr : Bru w) :
    Calls Tryz.prog 123 #[.agg #[.int .i64 sm, .slice ao n c], .int .u64 k] w fun e w' => ∃ (s' : Int) (a' : Option Addr) (n' c' : Nat), e = .returned (.agg #[.int .i64 s', .slice a' n' c']) ∧ IsInt w' s' a' n' c' (z / 2 ^ k) ∧ Ext w w' := by
  have q1 := eql_nil ao n c 0 0
  have hzb := h.bool
  have hnK := h.len hf
  rcases h with ⟨rfl, rfl, rfl, rfl, r1, r2⟩ | ⟨b, o, l, rfl, hl, hnc, hcm, hs, hd, hr, hz⟩
  · obtain ⟨q, hq⟩ : ∃ q, sm / 2 ^ min k 64 = q := ⟨_, rfl⟩
    have hqr : -9223372036854775808 ≤ q ∧ q ≤ 9223372036854775807 := by
      have hp : (0 : Int) < 2 ^ min k 64 := Int.pow_pos (by decide)
      rw [← hq]
      constructor
      · by_cases hneg : sm < 0
        · have h3 : sm ≤ sm / 2 ^ min k 64 := by
            generalize (2 : Int) ^ min k 64 = p at *
            exact (Int.le_ediv_iff_mul_le hp).2 (by have : sm * p ≤ sm * 1 := Int.mul_le_mul_of_nonpos_left (by omega) (by omega); omega)
          omega
        · have := Int.ediv_nonneg (a := sm) (b := 2 ^ min k 64) (by omega) (by omega); omega
      · have h4 : sm / 2 ^ min k 64 ≤ (if sm < 0 then 0 else sm) := by
          split
          · exact Int.le_of_lt (Int.ediv_neg_of_neg_of_pos (by assumption) hp)
          · exact Int.ediv_le_self _ (by omega)
        split at h4 <;> omega
    have hfin := shr_small sm k r1 r2
    rw [hq] at hfin
    rw [← hfin]
    have hno : (none : Option Addr).isNone = true := rfl
    clear hf hzb hfin hbr r1 r2
    go_enter Tryz.func123, Tryz.ntmps123
    go_wp2
    exact bodyPost_ret (v := .agg #[.int .i64 q, .slice none 0 0]) (by simp [results, Tryz.results123, go_sem]) rfl ⟨q, none, 0, 0, rfl, IsInt.small _ _ hqr.1 hqr.2, (Ext.alloc _ _).then _⟩
  · have hno : (some (⟨b, o, none⟩ : Addr)).isNone = false := rfl
    have HI : Hid (IsInt w sm (some ⟨b, o, none⟩) n c z) := Or.inr ⟨b, o, l, rfl, hl, hnc, hcm, hs, hd, hr, hz⟩
    have Hzv : Hid (z.natAbs = val l) := by show _ = _; rcases hz with ⟨_, h, _⟩ | ⟨_, h, _⟩ <;> omega
    have Hz0 : Hid (z ≠ 0) := by show _ ≠ _; rcases hz with ⟨_, h, _⟩ | ⟨_, h, _⟩ <;> omega
    obtain ⟨bb, hbb⟩ : ∃ bb, decide (sm < 0) = bb := ⟨_, rfl⟩
    rw [hbb] at hzb
    have Hzb := hid hzb; have Hbb := hid hbb; have Hl := hid hl; have Hs := hid hs; have Hd := hid hd; have Hf := hid hf; have Hbr := hid hbr
    clear hz hl hs hd hr hzb hbb hf hbr
    go_enter Tryz.func123, Tryz.ntmps123
    go_wp2_with fail
    have hbx := boxes1 w (.int .i64 sm) (.slice (some ⟨b, o, none⟩) n c)
    generalize (w.alloc (.cells #[.int .i64 sm, .slice (some ⟨b, o, none⟩) n c] 24)).alloc (.cells #[.int .i64 0, .slice none 0 0] 24) = W0 at *
    have hB : w.heap.size < W0.heap.size := by have := hbx.size; omega
    have hnn := negative_from (w := W0) sm (.slice (some ⟨b, o, none⟩) n c)
    rw [Hbb.out] at hnn
    have Hn := hid hnn; have Hsd := hid (shiftDown_from (w := W0) k hk); have Hfw := hid (fromWords_from (w := W0) bb)
    have Hs0 := hid (Hs.out.ext hbx.ext)
    have hE0d : Ext W0 W0.drew := Below.drew (Ext.refl _)
    have c0 := hbx.c0; have c1 := hbx.c1
    clear hnn
    have z0 := hE0d.size
    have hE00 : Ext W0 W0 := Ext.refl _
    go_region_held3 (fun w' => w'.cell? ⟨w.heap.size, 0, none⟩ = some (.int .i64 sm) ∧ w'.cell? ⟨w.heap.size, 1, none⟩ = some (.slice (some ⟨b, o, none⟩) n c))
      (refine ⟨?_, ?_⟩ <;> (repeat (refine cellPut (by omega) ?_)) <;> (first | exact cellKeep (W := W0) (by assumption) (by omega) (by assumption) | exact cellKeep (W := W0) (Ext.then (by assumption) _) (by omega) (by assumption)))
      (first | (go_at_call 92; (first | (refine (Hn.out _ (by assumption)).mono ?_; rintro e w1 ⟨rfl, he1, hx1⟩; have z1 := he1.size) | (refine (Hn.out _ (Ext.then (by assumption) _)).mono ?_; rintro e w1 ⟨rfl, he1, hx1⟩; have z1 := he1.size; have hRg := (res_new _).ext hx1) | (refine (Hn.out _ (Below.drew (Ext.then (by assumption) _))).mono ?_; rintro e w1 ⟨rfl, he1, hx1⟩; have z1 := he1.size; have hRg := (res_newd _).ext hx1))) | (go_at_call 147; (first | (refine (Hsd.out _ (some ⟨b, o, none⟩) l n c (by assumption) Hl.out (Hs0.out.ext (by assumption)) Hd.out hnc hcm (by omega)).mono ?_; rintro e w3 ⟨a3, l3, n3, c3, rfl, hl3, hn3, hc3, hs3, hd3, hm3, Hv3, he3, hx3⟩; have Hl3 := hid hl3; clear hl3; have z3 := he3.size; try have hRg := hRg.ext hx3) | (refine (Hsd.out _ (some ⟨b, o, none⟩) l n c (Ext.then (by assumption) _) Hl.out (Hs0.out.ext (Ext.then (by assumption) _)) Hd.out hnc hcm (by omega)).mono ?_; rintro e w3 ⟨a3, l3, n3, c3, rfl, hl3, hn3, hc3, hs3, hd3, hm3, Hv3, he3, hx3⟩; have Hl3 := hid hl3; clear hl3; have z3 := he3.size; have hRg := (res_new _).ext hx3))) | (go_at_call 130; (first | (refine (Hfw.out _ a3 l3 n3 c3 (by assumption) Hl3.out hs3 hd3 hn3 hc3).mono ?_; rintro e w4 ⟨s4, a4, n4, c4, rfl, hI4, he4, hx4⟩; have z4 := he4.size; try (have hRg := hRg.ext hx4; have k0 := hRg.c0; have k1 := hRg.c1; have g0 := hRg.f0; have g1 := hRg.f1)) | (refine (Hfw.out _ a3 l3 n3 c3 (Ext.then (by assumption) _) Hl3.out (hs3.ext (Ext.alloc _ _)) hd3 hn3 hc3).mono ?_; rintro e w4 ⟨s4, a4, n4, c4, rfl, hI4, he4, hx4⟩; have z4 := he4.size; have hRg := (res_new _).ext hx4; have k0 := hRg.c0; have k1 := hRg.c1; have g0 := hRg.f0; have g1 := hRg.f1))))
    · go_wp2_with fail
      have hO := outLate he4 hI4
      have HO := hid hO
      have Hval : Hid (∀ t, Tw z.natAbs t → z / 2 ^ k = if bb = true ∧ t < k then sgn bb (val l3) - 1 else sgn bb (val l3)) := by
        intro t ht
        rw [Hv3.out, ← Hzv.out, ← sgn_div bb z.natAbs k t ht, ← Hzb.out]
      have Hf4 : Hid (Fit K (sgn bb (val l3))) := by
        refine Hf.out.le ?_
        have e : (sgn bb (val l3)).natAbs = val l3 := by cases bb <;> simp [sgn]
        rw [e, Hv3.out, Hzv.out]
        exact Nat.div_le_self _ _
      refine (Hn.out _ hO.ext).mono ?_
      rintro e w6 ⟨rfl, he6, hx6⟩
      have o0 := cellKeep hx6 HO.out.lt HO.out.o0; have o1 := cellKeep hx6 HO.out.lt HO.out.o1
      have I6 := HO.out.int.ext hx6
      have ho6 := HO.out.ge
      have hlt6 := Nat.lt_of_lt_of_le HO.out.lt hx6.size
      have ho7 : W0.heap.size ≤ w6.heap.size := he6.size
      have y0 := cellKeep he6 hB c0; have y1 := cellKeep he6 hB c1
      have hr6 := hbx.res.ext he6
      have HE6 : Hid (Ext w w6) := hbx.ext.trans he6
      have hsz : w.heap.size + 1 < W0.heap.size := by have := hbx.size; omega
      clear hO
      cases bb
      case false =>
        have k0' := hr6.c0; have k1' := hr6.c1; have g0' := hr6.f0; have g1' := hr6.f1
        go_wp2_with fail
        have Hc : sgn false (val l3) = z / 2 ^ k := by rw [Hzb.out, Hv3.out, ← Hzv.out]; simp [sgn]
        exact bodyPost_ret (v := .agg #[.int .i64 s4, .slice a4 n4 c4]) (by simp [results, Tryz.results123, go_sem, k0', k1']) rfl ⟨s4, a4, n4, c4, rfl, (I6.cast Hc).keep64 (Keep64.set2 (.i64 k0') (.slice k1') (notW_i64 _) _), HE6.out.put2 (by omega) _ _⟩
      case true =>
        go_wp2_with fail
        refine (Twos_any sm (some ⟨b, o, none⟩) n c z w6 (HI.out.ext HE6.out) (by omega) (bru_ext Hbr.out HE6.out)).mono ?_
        rintro e w7 ⟨t, rfl, ht1, ht0, ht2, hx7⟩
        have Ht1 := hid (ht1 Hz0.out)
        have o0' := cellKeep hx7 hlt6 o0; have o1' := cellKeep hx7 hlt6 o1
        have I7 := I6.ext hx7
        have hr7 := hr6.ext hx7
        have z7 := hx7.size
        have HE7 : Hid (Ext w w7) := HE6.out.trans hx7
        clear ht1 ht0 o0 o1 y0 y1
        by_cases htk : t < k
        · have itk : (t : Int) < (k : Int) := by omega
          have Hfin := Hval.out t Ht1.out
          rw [if_pos ⟨by simp, htk⟩] at Hfin
          have HFin := hid Hfin
          have Ho := hid (Of_from (w := w7) 1 (by omega) (by omega)); have Hsub := hid (Sub_from I7 K hK Hf4.out)
          have h7d : Ext w7 w7.drew := Below.drew (Ext.refl _)
          clear Hfin
          go_wp2_with fail
          go_region_held3 (fun w' => w'.cell? ⟨w4.heap.size, 0, none⟩ = some (.int .i64 s4) ∧ w'.cell? ⟨w4.heap.size, 1, none⟩ = some (.slice a4 n4 c4))
            (refine ⟨?_, ?_⟩ <;> (repeat (refine cellPut (by omega) ?_)) <;> exact cellKeep (W := w7) (by assumption) (by omega) (by assumption))
            (first | (go_at_call 44; refine (Ho.out _ (by assumption)).mono ?_; rintro e wa ⟨rfl, hea, hxa⟩) | (go_at_call 78; refine (Hsub.out _ 1 none 0 0 1 (by assumption) (IsInt.small _ _ (by omega) (by omega)) (Fit.one hK1)).mono ?_; rintro e wb ⟨s8, a8, n8, c8, rfl, hI8, heb, hxb⟩; have hr8 := hr7.ext heb; have k0' := hr8.c0; have k1' := hr8.c1; have g0' := hr8.f0; have g1' := hr8.f1))
          go_wp2_with fail
          exact bodyPost_ret (v := .agg #[.int .i64 s8, .slice a8 n8 c8]) (by simp [results, Tryz.results123, go_sem, k0', k1']) rfl ⟨s8, a8, n8, c8, rfl, (hI8.cast HFin.out.symm).keep64 (Keep64.set2 (.i64 k0') (.slice k1') (notW_i64 _) _), (HE7.out.trans heb).put2 (by omega) _ _⟩
        · have itk : ¬ (t : Int) < (k : Int) := by omega
          have Hfin := Hval.out t Ht1.out
          rw [if_neg (fun h => htk h.2)] at Hfin
          have k0' := hr7.c0; have k1' := hr7.c1; have g0' := hr7.f0; have g1' := hr7.f1
          have HFin := hid Hfin
          clear Hfin
          go_wp2_with fail
          exact bodyPost_ret (v := .agg #[.int .i64 s4, .slice a4 n4 c4]) (by simp [results, Tryz.results123, go_sem, k0', k1']) rfl ⟨s4, a4, n4, c4, rfl, (I7.cast HFin.out.symm).keep64 (Keep64.set2 (.i64 k0') (.slice k1') (notW_i64 _) _), HE7.out.put2 (by omega) _ _⟩
    · go_wp2_with fail
      have hO := outEarly he4 hI4 (by omega) hRg
      have HO := hid hO
      have Hval : Hid (∀ t, Tw z.natAbs t → z / 2 ^ k = if bb = true ∧ t < k then sgn bb (val l3) - 1 else sgn bb (val l3)) := by
        intro t ht
        rw [Hv3.out, ← Hzv.out, ← sgn_div bb z.natAbs k t ht, ← Hzb.out]
      have Hf4 : Hid (Fit K (sgn bb (val l3))) := by
        refine Hf.out.le ?_
        have e : (sgn bb (val l3)).natAbs = val l3 := by cases bb <;> simp [sgn]
        rw [e, Hv3.out, Hzv.out]
        exact Nat.div_le_self _ _
      refine (Hn.out _ hO.ext).mono ?_
      rintro e w6 ⟨rfl, he6, hx6⟩
      have o0 := cellKeep hx6 HO.out.lt HO.out.o0; have o1 := cellKeep hx6 HO.out.lt HO.out.o1
      have I6 := HO.out.int.ext hx6
      have ho6 := HO.out.ge
      have hlt6 := Nat.lt_of_lt_of_le HO.out.lt hx6.size
      have ho7 : W0.heap.size ≤ w6.heap.size := he6.size
      have y0 := cellKeep he6 hB c0; have y1 := cellKeep he6 hB c1
      have hr6 := hbx.res.ext he6
      have HE6 : Hid (Ext w w6) := hbx.ext.trans he6
      have hsz : w.heap.size + 1 < W0.heap.size := by have := hbx.size; omega
      clear hO
      cases bb
      case false =>
        have k0' := hr6.c0; have k1' := hr6.c1; have g0' := hr6.f0; have g1' := hr6.f1
        go_wp2_with fail
        have Hc : sgn false (val l3) = z / 2 ^ k := by rw [Hzb.out, Hv3.out, ← Hzv.out]; simp [sgn]
        exact bodyPost_ret (v := .agg #[.int .i64 s4, .slice a4 n4 c4]) (by simp [results, Tryz.results123, go_sem, k0', k1']) rfl ⟨s4, a4, n4, c4, rfl, (I6.cast Hc).keep64 (Keep64.set2 (.i64 k0') (.slice k1') (notW_i64 _) _), HE6.out.put2 (by omega) _ _⟩
      case true =>
        go_wp2_with fail
        refine (Twos_any sm (some ⟨b, o, none⟩) n c z w6 (HI.out.ext HE6.out) (by omega) (bru_ext Hbr.out HE6.out)).mono ?_
        rintro e w7 ⟨t, rfl, ht1, ht0, ht2, hx7⟩
        have Ht1 := hid (ht1 Hz0.out)
        have o0' := cellKeep hx7 hlt6 o0; have o1' := cellKeep hx7 hlt6 o1
        have I7 := I6.ext hx7
        have hr7 := hr6.ext hx7
        have z7 := hx7.size
        have HE7 : Hid (Ext w w7) := HE6.out.trans hx7
        clear ht1 ht0 o0 o1 y0 y1
        by_cases htk : t < k
        · have itk : (t : Int) < (k : Int) := by omega
          have Hfin := Hval.out t Ht1.out
          rw [if_pos ⟨by simp, htk⟩] at Hfin
          have HFin := hid Hfin
          have Ho := hid (Of_from (w := w7) 1 (by omega) (by omega)); have Hsub := hid (Sub_from I7 K hK Hf4.out)
          have h7d : Ext w7 w7.drew := Below.drew (Ext.refl _)
          clear Hfin
          go_wp2_with fail
          go_region_held3 (fun w' => w'.cell? ⟨w3.heap.size, 0, none⟩ = some (.int .i64 s4) ∧ w'.cell? ⟨w3.heap.size, 1, none⟩ = some (.slice a4 n4 c4))
            (refine ⟨?_, ?_⟩ <;> (repeat (refine cellPut (by omega) ?_)) <;> exact cellKeep (W := w7) (by assumption) (by omega) (by assumption))
            (first | (go_at_call 44; refine (Ho.out _ (by assumption)).mono ?_; rintro e wa ⟨rfl, hea, hxa⟩) | (go_at_call 78; refine (Hsub.out _ 1 none 0 0 1 (by assumption) (IsInt.small _ _ (by omega) (by omega)) (Fit.one hK1)).mono ?_; rintro e wb ⟨s8, a8, n8, c8, rfl, hI8, heb, hxb⟩; have hr8 := hr7.ext heb; have k0' := hr8.c0; have k1' := hr8.c1; have g0' := hr8.f0; have g1' := hr8.f1))
          go_wp2_with fail
          exact bodyPost_ret (v := .agg #[.int .i64 s8, .slice a8 n8 c8]) (by simp [results, Tryz.results123, go_sem, k0', k1']) rfl ⟨s8, a8, n8, c8, rfl, (hI8.cast HFin.out.symm).keep64 (Keep64.set2 (.i64 k0') (.slice k1') (notW_i64 _) _), (HE7.out.trans heb).put2 (by omega) _ _⟩
        · have itk : ¬ (t : Int) < (k : Int) := by omega
          have Hfin := Hval.out t Ht1.out
          rw [if_neg (fun h => htk h.2)] at Hfin
          have k0' := hr7.c0; have k1' := hr7.c1; have g0' := hr7.f0; have g1' := hr7.f1
          have HFin := hid Hfin
          clear Hfin
          go_wp2_with fail
          exact bodyPost_ret (v := .agg #[.int .i64 s4, .slice a4 n4 c4]) (by simp [results, Tryz.results123, go_sem, k0', k1']) rfl ⟨s4, a4, n4, c4, rfl, (I7.cast HFin.out.symm).keep64 (Keep64.set2 (.i64 k0') (.slice k1') (notW_i64 _) _), HE7.out.put2 (by omega) _ _⟩
    · go_wp2_with fail
      have hO := outEarly he4 hI4 (by omega) hRg
      have HO := hid hO
      have Hval : Hid (∀ t, Tw z.natAbs t → z / 2 ^ k = if bb = true ∧ t < k then sgn bb (val l3) - 1 else sgn bb (val l3)) := by
        intro t ht
        rw [Hv3.out, ← Hzv.out, ← sgn_div bb z.natAbs k t ht, ← Hzb.out]
      have Hf4 : Hid (Fit K (sgn bb (val l3))) := by
        refine Hf.out.le ?_
        have e : (sgn bb (val l3)).natAbs = val l3 := by cases bb <;> simp [sgn]
        rw [e, Hv3.out, Hzv.out]
        exact Nat.div_le_self _ _
      refine (Hn.out _ hO.ext).mono ?_
      rintro e w6 ⟨rfl, he6, hx6⟩
      have o0 := cellKeep hx6 HO.out.lt HO.out.o0; have o1 := cellKeep hx6 HO.out.lt HO.out.o1
      have I6 := HO.out.int.ext hx6
      have ho6 := HO.out.ge
      have hlt6 := Nat.lt_of_lt_of_le HO.out.lt hx6.size
      have ho7 : W0.heap.size ≤ w6.heap.size := he6.size
      have y0 := cellKeep he6 hB c0; have y1 := cellKeep he6 hB c1
      have hr6 := hbx.res.ext he6
      have HE6 : Hid (Ext w w6) := hbx.ext.trans he6
      have hsz : w.heap.size + 1 < W0.heap.size := by have := hbx.size; omega
      clear hO
      cases bb
      case false =>
        have k0' := hr6.c0; have k1' := hr6.c1; have g0' := hr6.f0; have g1' := hr6.f1
        go_wp2_with fail
        have Hc : sgn false (val l3) = z / 2 ^ k := by rw [Hzb.out, Hv3.out, ← Hzv.out]; simp [sgn]
        exact bodyPost_ret (v := .agg #[.int .i64 s4, .slice a4 n4 c4]) (by simp [results, Tryz.results123, go_sem, k0', k1']) rfl ⟨s4, a4, n4, c4, rfl, (I6.cast Hc).keep64 (Keep64.set2 (.i64 k0') (.slice k1') (notW_i64 _) _), HE6.out.put2 (by omega) _ _⟩
      case true =>
        go_wp2_with fail
        refine (Twos_any sm (some ⟨b, o, none⟩) n c z w6 (HI.out.ext HE6.out) (by omega) (bru_ext Hbr.out HE6.out)).mono ?_
        rintro e w7 ⟨t, rfl, ht1, ht0, ht2, hx7⟩
        have Ht1 := hid (ht1 Hz0.out)
        have o0' := cellKeep hx7 hlt6 o0; have o1' := cellKeep hx7 hlt6 o1
        have I7 := I6.ext hx7
        have hr7 := hr6.ext hx7
        have z7 := hx7.size
        have HE7 : Hid (Ext w w7) := HE6.out.trans hx7
        clear ht1 ht0 o0 o1 y0 y1
        by_cases htk : t < k
        · have itk : (t : Int) < (k : Int) := by omega
          have Hfin := Hval.out t Ht1.out
          rw [if_pos ⟨by simp, htk⟩] at Hfin
          have HFin := hid Hfin
          have Ho := hid (Of_from (w := w7) 1 (by omega) (by omega)); have Hsub := hid (Sub_from I7 K hK Hf4.out)
          have h7d : Ext w7 w7.drew := Below.drew (Ext.refl _)
          clear Hfin
          go_wp2_with fail
          go_region_held3 (fun w' => w'.cell? ⟨w1.heap.size, 0, none⟩ = some (.int .i64 s4) ∧ w'.cell? ⟨w1.heap.size, 1, none⟩ = some (.slice a4 n4 c4))
            (refine ⟨?_, ?_⟩ <;> (repeat (refine cellPut (by omega) ?_)) <;> exact cellKeep (W := w7) (by assumption) (by omega) (by assumption))
            (first | (go_at_call 44; refine (Ho.out _ (by assumption)).mono ?_; rintro e wa ⟨rfl, hea, hxa⟩) | (go_at_call 78; refine (Hsub.out _ 1 none 0 0 1 (by assumption) (IsInt.small _ _ (by omega) (by omega)) (Fit.one hK1)).mono ?_; rintro e wb ⟨s8, a8, n8, c8, rfl, hI8, heb, hxb⟩; have hr8 := hr7.ext heb; have k0' := hr8.c0; have k1' := hr8.c1; have g0' := hr8.f0; have g1' := hr8.f1))
          go_wp2_with fail
          exact bodyPost_ret (v := .agg #[.int .i64 s8, .slice a8 n8 c8]) (by simp [results, Tryz.results123, go_sem, k0', k1']) rfl ⟨s8, a8, n8, c8, rfl, (hI8.cast HFin.out.symm).keep64 (Keep64.set2 (.i64 k0') (.slice k1') (notW_i64 _) _), (HE7.out.trans heb).put2 (by omega) _ _⟩
        · have itk : ¬ (t : Int) < (k : Int) := by omega
          have Hfin := Hval.out t Ht1.out
          rw [if_neg (fun h => htk h.2)] at Hfin
          have k0' := hr7.c0; have k1' := hr7.c1; have g0' := hr7.f0; have g1' := hr7.f1
          have HFin := hid Hfin
          clear Hfin
          go_wp2_with fail
          exact bodyPost_ret (v := .agg #[.int .i64 s4, .slice a4 n4 c4]) (by simp [results, Tryz.results123, go_sem, k0', k1']) rfl ⟨s4, a4, n4, c4, rfl, (I7.cast HFin.out.symm).keep64 (Keep64.set2 (.i64 k0') (.slice k1') (notW_i64 _) _), HE7.out.put2 (by omega) _ _⟩
    · go_wp2_with fail
      have hO := outEarly he4 hI4 (by omega) hRg
      have HO := hid hO
      have Hval : Hid (∀ t, Tw z.natAbs t → z / 2 ^ k = if bb = true ∧ t < k then sgn bb (val l3) - 1 else sgn bb (val l3)) := by
        intro t ht
        rw [Hv3.out, ← Hzv.out, ← sgn_div bb z.natAbs k t ht, ← Hzb.out]
      have Hf4 : Hid (Fit K (sgn bb (val l3))) := by
        refine Hf.out.le ?_
        have e : (sgn bb (val l3)).natAbs = val l3 := by cases bb <;> simp [sgn]
        rw [e, Hv3.out, Hzv.out]
        exact Nat.div_le_self _ _
      refine (Hn.out _ hO.ext).mono ?_
      rintro e w6 ⟨rfl, he6, hx6⟩
      have o0 := cellKeep hx6 HO.out.lt HO.out.o0; have o1 := cellKeep hx6 HO.out.lt HO.out.o1
      have I6 := HO.out.int.ext hx6
      have ho6 := HO.out.ge
      have hlt6 := Nat.lt_of_lt_of_le HO.out.lt hx6.size
      have ho7 : W0.heap.size ≤ w6.heap.size := he6.size
      have y0 := cellKeep he6 hB c0; have y1 := cellKeep he6 hB c1
      have hr6 := hbx.res.ext he6
      have HE6 : Hid (Ext w w6) := hbx.ext.trans he6
      have hsz : w.heap.size + 1 < W0.heap.size := by have := hbx.size; omega
      clear hO
      cases bb
      case false =>
        have k0' := hr6.c0; have k1' := hr6.c1; have g0' := hr6.f0; have g1' := hr6.f1
        go_wp2_with fail
        have Hc : sgn false (val l3) = z / 2 ^ k := by rw [Hzb.out, Hv3.out, ← Hzv.out]; simp [sgn]
        exact bodyPost_ret (v := .agg #[.int .i64 s4, .slice a4 n4 c4]) (by simp [results, Tryz.results123, go_sem, k0', k1']) rfl ⟨s4, a4, n4, c4, rfl, (I6.cast Hc).keep64 (Keep64.set2 (.i64 k0') (.slice k1') (notW_i64 _) _), HE6.out.put2 (by omega) _ _⟩
      case true =>
        go_wp2_with fail
        refine (Twos_any sm (some ⟨b, o, none⟩) n c z w6 (HI.out.ext HE6.out) (by omega) (bru_ext Hbr.out HE6.out)).mono ?_
        rintro e w7 ⟨t, rfl, ht1, ht0, ht2, hx7⟩
        have Ht1 := hid (ht1 Hz0.out)
        have o0' := cellKeep hx7 hlt6 o0; have o1' := cellKeep hx7 hlt6 o1
        have I7 := I6.ext hx7
        have hr7 := hr6.ext hx7
        have z7 := hx7.size
        have HE7 : Hid (Ext w w7) := HE6.out.trans hx7
        clear ht1 ht0 o0 o1 y0 y1
        by_cases htk : t < k
        · have itk : (t : Int) < (k : Int) := by omega
          have Hfin := Hval.out t Ht1.out
          rw [if_pos ⟨by simp, htk⟩] at Hfin
          have HFin := hid Hfin
          have Ho := hid (Of_from (w := w7) 1 (by omega) (by omega)); have Hsub := hid (Sub_from I7 K hK Hf4.out)
          have h7d : Ext w7 w7.drew := Below.drew (Ext.refl _)
          clear Hfin
          go_wp2_with fail
          go_region_held3 (fun w' => w'.cell? ⟨W0.heap.size, 0, none⟩ = some (.int .i64 s4) ∧ w'.cell? ⟨W0.heap.size, 1, none⟩ = some (.slice a4 n4 c4))
            (refine ⟨?_, ?_⟩ <;> (repeat (refine cellPut (by omega) ?_)) <;> exact cellKeep (W := w7) (by assumption) (by omega) (by assumption))
            (first | (go_at_call 44; refine (Ho.out _ (by assumption)).mono ?_; rintro e wa ⟨rfl, hea, hxa⟩) | (go_at_call 78; refine (Hsub.out _ 1 none 0 0 1 (by assumption) (IsInt.small _ _ (by omega) (by omega)) (Fit.one hK1)).mono ?_; rintro e wb ⟨s8, a8, n8, c8, rfl, hI8, heb, hxb⟩; have hr8 := hr7.ext heb; have k0' := hr8.c0; have k1' := hr8.c1; have g0' := hr8.f0; have g1' := hr8.f1))
          go_wp2_with fail
          exact bodyPost_ret (v := .agg #[.int .i64 s8, .slice a8 n8 c8]) (by simp [results, Tryz.results123, go_sem, k0', k1']) rfl ⟨s8, a8, n8, c8, rfl, (hI8.cast HFin.out.symm).keep64 (Keep64.set2 (.i64 k0') (.slice k1') (notW_i64 _) _), (HE7.out.trans heb).put2 (by omega) _ _⟩
        · have itk : ¬ (t : Int) < (k : Int) := by omega
          have Hfin := Hval.out t Ht1.out
          rw [if_neg (fun h => htk h.2)] at Hfin
          have k0' := hr7.c0; have k1' := hr7.c1; have g0' := hr7.f0; have g1' := hr7.f1
          have HFin := hid Hfin
          clear Hfin
          go_wp2_with fail
          exact bodyPost_ret (v := .agg #[.int .i64 s4, .slice a4 n4 c4]) (by simp [results, Tryz.results123, go_sem, k0', k1']) rfl ⟨s4, a4, n4, c4, rfl, (I7.cast HFin.out.symm).keep64 (Keep64.set2 (.i64 k0') (.slice k1') (notW_i64 _) _), HE7.out.put2 (by omega) _ _⟩

end Go.Proofs.YtldkomeacocjbaaGreatDoor
