/-
  Reading numbers: the small calls on texts.
-/
import Derived.Test.YtdiojbgbeeojkaaGreatDoorMIntE
import Derived.Lib.Strings

namespace Go.Proofs.YtdiojbgbeeojkaaGreatDoor
open Go.RowKit

/-- A text's bytes, as numbers. -/
def bs (s : ByteArray) : List Nat := s.data.toList.map UInt8.toNat

theorem bs_length (s : ByteArray) : (bs s).length = s.size := by rw [Lib.size_eq, bs, List.length_map]
theorem bs_at (s : ByteArray) (k : Nat) (h : k < s.size) : s[k].toNat = (bs s).getD k 0 := by
  have h' : k < s.data.toList.length := by rw [← Lib.size_eq]; exact h
  unfold bs
  rw [List.getD_eq_getElem?_getD, List.getElem?_map, List.getElem?_eq_getElem h']
  rfl
theorem bs_lt (s : ByteArray) (k : Nat) : (bs s).getD k 0 < 256 := by
  unfold bs
  rw [List.getD_eq_getElem?_getD, List.getElem?_map]
  cases s.data.toList[k]? with
  | none => simp
  | some b => simp; exact b.toNat_lt
theorem bs_extract (s : ByteArray) (a b : Nat) : bs (s.extract a b) = ((bs s).drop a).take (b - a) := by
  unfold bs; rw [Lib.extract_data, List.map_take, List.map_drop]
theorem bs_empty (s : ByteArray) (h : 0 < s.size) : s.toList.isEmpty = false := by
  rw [Lib.toList_data]
  have : s.data.toList.length ≠ 0 := by rw [← Lib.size_eq]; omega
  cases hd : s.data.toList with
  | nil => rw [hd] at this; simp at this
  | cons x r => rfl
theorem bs_nil (s : ByteArray) (h : s.size = 0) : s = ⟨#[]⟩ := by
  have : s.data.toList = [] := List.eq_nil_of_length_eq_zero (by rw [← Lib.size_eq]; exact h)
  cases s with
  | mk d => simp at this; simp [this]

/-- The length of a text's sign. -/
def sgl (l : List Nat) : Nat := if l.getD 0 0 = 45 then 1 else 0
theorem sgl_le (l : List Nat) : sgl l ≤ l.length ∧ sgl l ≤ 1 := by
  unfold sgl
  split
  · rename_i h
    cases l with
    | nil => simp at h
    | cons x r => simp
  · exact ⟨Nat.zero_le _, by omega⟩

set_option maxHeartbeats 400000 in
theorem signLength_any (s : ByteArray) (w : World) (_hs : s.size ≤ 9223372036854775807) :
    Calls Tryz.prog 59 #[.string s] w fun e w' => e = .returned (.int .i64 (sgl (bs s) : Nat)) ∧ w = w' := by
  by_cases h0 : s.size = 0
  · have e := bs_nil s h0
    subst e
    go_enter Tryz.func59, Tryz.ntmps59
    go_wp2
    go_ret
    exact ⟨rfl, rfl⟩
  · have hp : 0 < s.size := by omega
    have he := bs_empty s hp
    have hat := bs_at s 0 hp
    by_cases h45 : (bs s).getD 0 0 = 45
    · have hb : ((s[0].toNat : Int) == 45) = true := by rw [beq_iff_eq, hat]; omega
      have Hg : Hid (sgl (bs s) = 1) := by show _ = _; unfold sgl; rw [if_pos h45]
      clear hat h45 h0
      go_enter Tryz.func59, Tryz.ntmps59
      go_wp2
      go_ret
      exact ⟨by rw [Hg.out]; rfl, rfl⟩
    · have hb : ((s[0].toNat : Int) == 45) = false := by rw [beq_eq_false_iff_ne, hat]; omega
      have Hg : Hid (sgl (bs s) = 0) := by show _ = _; unfold sgl; rw [if_neg h45]
      clear hat h45 h0
      go_enter Tryz.func59, Tryz.ntmps59
      go_wp2
      go_ret
      exact ⟨by rw [Hg.out]; rfl, rfl⟩

/-- A digit's byte. -/
def isD (x : Nat) : Bool := decide (48 ≤ x ∧ x ≤ 57)
/-- The digits at a text's beginning. -/
def dcount (l : List Nat) : Nat := (l.takeWhile isD).length
theorem dcount_le (l : List Nat) : dcount l ≤ l.length := by
  unfold dcount; exact (List.takeWhile_prefix _).length_le
theorem dcount_of (l : List Nat) (k : Nat) (hk : k ≤ l.length) (h : ∀ t, t < k → isD (l.getD t 0) = true) (h2 : k = l.length ∨ isD (l.getD k 0) = false) : dcount l = k := by
  induction l generalizing k with
  | nil => simp at hk; simp [dcount, hk]
  | cons x r ih =>
    cases k with
    | zero =>
      have : isD x = false := by
        rcases h2 with h2 | h2
        · simp at h2
        · simpa using h2
      simp [dcount, this]
    | succ m =>
      have hx : isD x = true := by have := h 0 (by omega); simpa using this
      have := ih m (by simpa using hk) (fun t ht => by have := h (t + 1) (by omega); simpa using this) (by
        rcases h2 with h2 | h2
        · left; simpa using h2
        · right; simpa using h2)
      unfold dcount at this ⊢
      simp [hx, this]

/-- What scanPositive counts. -/
def spos (l : List Nat) : Nat := if l.length = 0 ∨ l.getD 0 0 = 48 then 0 else dcount l
theorem spos_le (l : List Nat) : spos l ≤ l.length := by
  unfold spos; split
  · exact Nat.zero_le _
  · exact dcount_le l

set_option maxHeartbeats 600000 in
set_option maxRecDepth 100000 in
theorem scanPositive_any (s : ByteArray) (w : World) (hs : s.size ≤ 9223372036854775807) :
    Calls Tryz.prog 58 #[.string s] w fun e w' => e = .returned (.int .i64 (spos (bs s) : Nat)) ∧ w = w' := by
  by_cases h0 : s.size = 0
  · have e := bs_nil s h0
    subst e
    go_enter Tryz.func58, Tryz.ntmps58
    go_wp2
    go_ret
    exact ⟨rfl, rfl⟩
  · have hp : 0 < s.size := by omega
    have he := bs_empty s hp
    have hat := bs_at s 0 hp
    have hlen := bs_length s
    by_cases h48 : (bs s).getD 0 0 = 48
    · have hb : ((s[0].toNat : Int) == 48) = true := by rw [beq_iff_eq, hat]; omega
      have Hg : Hid (spos (bs s) = 0) := by show _ = _; unfold spos; rw [if_pos (Or.inr h48)]
      clear hat h48 h0 hlen
      go_enter Tryz.func58, Tryz.ntmps58
      go_wp2
      go_ret
      exact ⟨by rw [Hg.out]; rfl, rfl⟩
    · have hb : ((s[0].toNat : Int) == 48) = false := by rw [beq_eq_false_iff_ne, hat]; omega
      have Hg : Hid (spos (bs s) = dcount (bs s)) := by show _ = _; unfold spos; rw [if_neg (by rw [hlen]; rintro (h | h) <;> omega)]
      have Hlen := hid hlen
      clear hat h48 h0 hlen
      go_enter Tryz.func58, Tryz.ntmps58
      go_wp2
      go_loop [3] (fun i => ∃ k : Nat, k ≤ s.size ∧ i = .int .i64 k ∧ ∀ t, t < k → isD ((bs s).getD t 0) = true) (fun i => s.size - (intOf i).toNat)
      case atStart => exact ⟨0, Nat.zero_le _, rfl, fun t ht => absurd ht (by omega)⟩
      case round =>
        obtain ⟨k, hk, rfl, hall⟩ := hrel
        have Hall := hid hall
        clear hall
        by_cases hlt : k < s.size
        · have hat := bs_at s k hlt
          by_cases hdg : isD ((bs s).getD k 0) = true
          · have hr : (48 : Int) ≤ (s[k].toNat : Int) ∧ (s[k].toNat : Int) ≤ 57 := by
              simp only [isD, decide_eq_true_eq] at hdg; rw [hat]; omega
            obtain ⟨g1, g2⟩ := hr
            have Hdg := hid hdg
            clear hat hdg
            go_wp2
            have hall := Hall.out
            go_round
            case rel => exact ⟨k + 1, by omega, by go_num, fun t ht => by
              by_cases e : t = k
              · rw [e]; exact Hdg.out
              · exact hall t (by omega)⟩
            case measure => simp [intOf]; omega
          · have Hc : Hid (dcount (bs s) = k) := dcount_of _ k (by rw [Hlen.out]; exact hk) Hall.out (Or.inr (by simpa using hdg))
            by_cases hlo : 48 ≤ s[k].toNat
            · have g1 : (48 : Int) ≤ (s[k].toNat : Int) := by omega
              have g2 : ¬ (s[k].toNat : Int) ≤ 57 := by
                simp only [isD, decide_eq_true_eq] at hdg; rw [hat] at hlo ⊢; omega
              clear hat hdg hlo
              go_wp2
              go_ret
              exact ⟨by rw [Hg.out, Hc.out]; rfl, rfl⟩
            · have g1 : ¬ (48 : Int) ≤ (s[k].toNat : Int) := by omega
              clear hat hdg hlo
              go_wp2
              go_ret
              exact ⟨by rw [Hg.out, Hc.out]; rfl, rfl⟩
        · obtain rfl : k = s.size := by omega
          have Hc : Hid (dcount (bs s) = s.size) := dcount_of _ _ (by rw [Hlen.out]; exact hk) Hall.out (Or.inl Hlen.out.symm)
          go_wp2
          go_ret
          exact ⟨by rw [Hg.out, Hc.out]; rfl, rfl⟩

end Go.Proofs.YtdiojbgbeeojkaaGreatDoor

/-
  Reading numbers: scanNumber, tooLong, readChunk, appendChunk.
-/
namespace Go.Proofs.YtdiojbgbeeojkaaGreatDoor
open Go.RowKit

/-- What scanNumber tells. -/
def scanN (l : List Nat) : Nat × Bool :=
  if 0 < l.length ∧ l.getD 0 0 = 48 then (1, true) else (sgl l + spos (l.drop (sgl l)), decide (0 < spos (l.drop (sgl l))))

set_option maxHeartbeats 400000 in
set_option maxRecDepth 100000 in
theorem scanNumber_any (s : ByteArray) (w : World) (hs : s.size ≤ 9223372036854775807) :
    Calls Tryz.prog 54 #[.string s] w fun e w' => e = .returned (.tuple #[.int .i64 ((scanN (bs s)).1 : Nat), .bool (scanN (bs s)).2]) ∧ w = w' := by
  by_cases h48 : 0 < (bs s).length ∧ (bs s).getD 0 0 = 48
  · have hp : 0 < s.size := by rw [← bs_length]; exact h48.1
    have he := bs_empty s hp
    have hb : ((s[0].toNat : Int) == 48) = true := by rw [beq_iff_eq, bs_at s 0 hp]; have := h48.2; omega
    have Hg : Hid (scanN (bs s) = (1, true)) := by show _ = _; unfold scanN; rw [if_pos h48]
    clear h48
    go_enter Tryz.func54, Tryz.ntmps54
    go_wp2_with fail
    go_ret2
    exact ⟨by rw [Hg.out]; rfl, rfl⟩
  · have Hg : Hid (scanN (bs s) = (sgl (bs s) + spos ((bs s).drop (sgl (bs s))), decide (0 < spos ((bs s).drop (sgl (bs s)))))) := by show _ = _; unfold scanN; rw [if_neg h48]
    have hsl := sgl_le (bs s)
    have Hsl := hid (signLength_any s w hs)
    rw [bs_length] at hsl
    have hext : bs (s.extract (sgl (bs s)) s.size) = (bs s).drop (sgl (bs s)) := by
      rw [bs_extract, List.take_of_length_le]
      rw [List.length_drop, bs_length]; omega
    have hsz : (s.extract (sgl (bs s)) s.size).size ≤ 9223372036854775807 := by
      rw [← bs_length, hext, List.length_drop, bs_length]; omega
    have Hsp := hid (fun wx => scanPositive_any (s.extract (sgl (bs s)) s.size) wx hsz)
    have hspl := spos_le ((bs s).drop (sgl (bs s)))
    rw [List.length_drop, bs_length] at hspl
    rw [hext] at Hsp
    have hnz : s.size = 0 ∨ (∃ hp : 0 < s.size, ((s[0].toNat : Int) == 48) = false) := by
      by_cases h0 : s.size = 0
      · exact Or.inl h0
      · right; refine ⟨by omega, ?_⟩
        rw [beq_eq_false_iff_ne, bs_at s 0 (by omega)]
        intro h; exact h48 ⟨by rw [bs_length]; omega, by omega⟩
    obtain ⟨g, hg⟩ : ∃ g, sgl (bs s) = g := ⟨_, rfl⟩
    obtain ⟨d, hd⟩ : ∃ d, spos ((bs s).drop (sgl (bs s))) = d := ⟨_, rfl⟩
    rw [hd] at Hg Hsp hspl
    rw [hg] at Hg Hsl Hsp hsl hspl
    obtain ⟨hg1, hg2⟩ := hsl
    clear hext hsz h48 hg hd
    rcases hnz with h0 | ⟨hp, hb⟩
    · obtain rfl : g = 0 := by omega
      obtain rfl : d = 0 := by omega
      have e := bs_nil s h0
      subst e
      go_enter Tryz.func54, Tryz.ntmps54
      go_wp2_with fail
      refine Hsl.out.mono ?_
      rintro e w1 ⟨rfl, rfl⟩
      go_wp2_with fail
      refine (Hsp.out _).mono ?_
      rintro e w2 ⟨rfl, rfl⟩
      go_wp2_with fail
      go_ret2
      exact ⟨by rw [Hg.out]; rfl, rfl⟩
    · have he := bs_empty s hp
      have hdl : d ≤ s.size := by omega
      have hgi : (g : Int) ≤ (s.size : Int) := by omega
      go_enter Tryz.func54, Tryz.ntmps54
      go_wp2_with fail
      refine Hsl.out.mono ?_
      rintro e w1 ⟨rfl, rfl⟩
      go_wp2_with fail
      refine (Hsp.out _).mono ?_
      rintro e w2 ⟨rfl, rfl⟩
      go_wp2_with fail
      go_ret2
      refine ⟨?_, rfl⟩
      rw [Hg.out]
      show Ending.returned (.tuple #[.int .i64 _, .bool _]) = .returned (.tuple #[.int .i64 _, .bool _])
      simp

set_option maxHeartbeats 400000 in
theorem tooLong_any (s : ByteArray) (w : World) (hs : s.size ≤ 9223372036854775807) :
    Calls Tryz.prog 31 #[.string s] w fun e w' => e = .returned (.bool (decide (1000 < s.size - sgl (bs s)))) ∧ w = w' := by
  have Hsl := hid (signLength_any s w hs)
  have hsl := sgl_le (bs s)
  rw [bs_length] at hsl
  obtain ⟨g, hg⟩ : ∃ g, sgl (bs s) = g := ⟨_, rfl⟩
  rw [hg] at Hsl hsl ⊢
  obtain ⟨hg1, hg2⟩ := hsl
  clear hg
  go_enter Tryz.func31, Tryz.ntmps31
  go_wp2_with fail
  refine Hsl.out.mono ?_
  rintro e w1 ⟨rfl, rfl⟩
  go_wp2_with fail
  go_ret
  refine ⟨?_, rfl⟩
  show Ending.returned (.bool _) = .returned (.bool _)
  congr 2
  rw [decide_eq_decide]
  omega

/-- The number that digits make. -/
def dval (l : List Nat) : Nat := l.foldl (fun v x => 10 * v + (x - 48)) 0
theorem dval_snoc (l : List Nat) (x : Nat) : dval (l ++ [x]) = 10 * dval l + (x - 48) := by simp [dval]
theorem dval_lt (l : List Nat) (h : ∀ t, t < l.length → isD (l.getD t 0) = true) : dval l < 10 ^ l.length := by
  induction hn : l.length generalizing l with
  | zero => have : l = [] := List.eq_nil_of_length_eq_zero hn; subst this; simp [dval]
  | succ n ih =>
    have hl : l = l.take n ++ [l.getD n 0] := by
      have := take_succ_getD l n (by omega)
      rw [List.take_of_length_le (by omega)] at this
      exact this
    have hlt : (l.take n).length = n := by rw [List.length_take]; omega
    have h1 := ih (l.take n) (fun t ht => by
      have := h t (by omega)
      rw [List.getD_eq_getElem?_getD, List.getElem?_take, if_pos (by omega), ← List.getD_eq_getElem?_getD]; exact this) hlt
    have h2 := h n (by omega)
    simp only [isD, decide_eq_true_eq] at h2
    rw [hl, dval_snoc, Nat.pow_succ]
    omega

set_option maxHeartbeats 400000 in
set_option maxRecDepth 100000 in
theorem readChunk_any (s : ByteArray) (w : World) (hs : s.size ≤ 19) (hd : ∀ t, t < s.size → isD ((bs s).getD t 0) = true) :
    Calls Tryz.prog 61 #[.string s] w fun e w' => e = .returned (.int .u64 (dval (bs s) : Nat)) ∧ w = w' := by
  have Hd := hid hd
  clear hd
  go_enter Tryz.func61, Tryz.ntmps61
  go_wp2
  go_loop [3, 7] (fun v i => ∃ k : Nat, k ≤ s.size ∧ i = .int .i64 k ∧ v = .int .u64 (dval ((bs s).take k) : Nat)) (fun _ i => s.size - (intOf i).toNat)
  case atStart => exact ⟨0, Nat.zero_le _, rfl, rfl⟩
  case round =>
    obtain ⟨k, hk, rfl, rfl⟩ := hrel
    have hbk : dval ((bs s).take k) < 10 ^ k := by
      have hl : ((bs s).take k).length = k := by rw [List.length_take, bs_length]; omega
      have := dval_lt ((bs s).take k) (fun t ht => by
        rw [List.getD_eq_getElem?_getD, List.getElem?_take, if_pos (by omega), ← List.getD_eq_getElem?_getD]; exact Hd.out t (by omega))
      rwa [hl] at this
    by_cases hlt : k < s.size
    · have hat := bs_at s k hlt
      have hdg := Hd.out k hlt
      simp only [isD, decide_eq_true_eq] at hdg
      obtain ⟨v, hv⟩ : ∃ v, dval ((bs s).take k) = v := ⟨_, rfl⟩
      obtain ⟨x, hx⟩ : ∃ x, s[k].toNat = x := ⟨_, rfl⟩
      have hvb : v < 10 ^ 18 := by rw [← hv]; exact Nat.lt_of_lt_of_le hbk (Nat.pow_le_pow_right (by omega) (by omega))
      have hvb' : v ≤ 1000000000000000000 := by omega
      have hx1 : 48 ≤ x ∧ x ≤ 57 := by rw [← hx, hat]; exact hdg
      obtain ⟨hx1, hx2⟩ := hx1
      have Hstep : Hid (dval ((bs s).take (k + 1)) = 10 * v + (x - 48)) := by
        show _ = _
        rw [take_succ_getD _ k (by rw [bs_length]; exact hlt), dval_snoc, hv, ← hat, hx]
      have ehx : (s[k].toNat : Int) = (x : Int) := by rw [hx]
      rw [hv]
      clear hat hdg hv hbk hvb hx
      go_wp2
      go_round
      case rel => exact ⟨k + 1, by omega, by go_num, by rw [Hstep.out]; go_num⟩
      case measure => simp [intOf]; omega
    · obtain rfl : k = s.size := by omega
      have Hfin : Hid ((bs s).take s.size = bs s) := List.take_of_length_le (by rw [bs_length]; exact Nat.le_refl _)
      clear hbk
      go_wp2
      go_ret
      refine ⟨?_, rfl⟩
      have hf := Hfin.out
      show Ending.returned (.int .u64 (dval ((bs s).take s.size) : Nat)) = _
      rw [hf]

end Go.Proofs.YtdiojbgbeeojkaaGreatDoor

/-
  Reading numbers: appendChunk, readNumber.
-/
namespace Go.Proofs.YtdiojbgbeeojkaaGreatDoor
open Go.RowKit

/-- A chunk behind the digits of a number, in plain numbers. -/
theorem chunk_val {M la : List Nat} {n over chunk k : Nat} (hM : M.length = n + 1) (hv : val (seg M 0 n) + B64 ^ n * over = k + val la * chunk) : val (M.set n over) = k + val la * chunk := by
  have e1 : val (M.set n over) = val (seg (M.set n over) 0 (n + 1)) := by
    rw [show seg (M.set n over) 0 (n + 1) = M.set n over from by
      have := seg_all (M.set n over); rwa [List.length_set, hM] at this]
  rw [e1, val_seg_succ _ 0 n (by rw [List.length_set]; omega), Nat.zero_add, getD_set_eq _ _ _ (by omega), seg_set_out _ _ _ _ _ (by omega), hv]

set_option maxHeartbeats 800000 in
set_option maxRecDepth 100000 in
theorem appendChunk_any (ao : Option Addr) (la : List Nat) (n c chunk : Nat) (w : World) (hl : la.length = n) (hs : Seg w ao la) (hd : Dig la) (hc : n ≤ c) (hn : n ≤ 16777216) (hch : chunk < 10000000000000000000) :
    Calls Tryz.prog 60 #[.slice ao n c, .int .u64 chunk] w fun e w' => ∃ v, e = .returned v ∧ Num w' v (chunk + val la * 10000000000000000000) ∧ Ext w w' := by
  have Hl := hid hl
  clear hl
  have hcB : chunk < B64 := by rw [B64_eq]; omega
  have i1 : (0 : Int) ≤ (n : Int) := by omega
  have i2 : (n : Int) < (n : Int) + 1 := by omega
  have i3 : (n : Int) ≤ (n : Int) + 1 := by omega
  go_enter Tryz.func60, Tryz.ntmps60
  go_wp2_with (at_make; refine wpList_make_row _ rfl _ _ rfl _ _ _ _ (n + 1) rfl rfl (by omega) (by omega) (by omega) ?_; intro w1 hr1 he1 hz1; have hcz := hr1.cell 0 (by simp); have hfz := hr1.frozen 0)
  have hr2 : Row (w1.setCell ⟨w.heap.size, 0, none⟩ (.int .u64 (chunk : Nat))) w.heap.size ((List.replicate (n + 1) 0).set 0 chunk) := hr1.set _ _
  have ho2 : Only w.heap.size w1 (w1.setCell ⟨w.heap.size, 0, none⟩ (.int .u64 (chunk : Nat))) := (Only.refl _ _).setCell _ _
  have hdR : Dig ((List.replicate (n + 1) 0).set 0 chunk) := (Dig.replicate _).set _ _ hcB
  have hlR : ((List.replicate (n + 1) 0).set 0 chunk).length = n + 1 := by simp
  have hyR : ((List.replicate (n + 1) 0).set 0 chunk).getD n 0 = if n = 0 then chunk else 0 := by
    by_cases h0 : n = 0
    · subst h0; simp
    · rw [if_neg h0, getD_set_ne _ _ _ _ (by omega)]; simp
  have hvR : val (seg ((List.replicate (n + 1) 0).set 0 chunk) 0 n) = if n = 0 then 0 else chunk := by
    by_cases h0 : n = 0
    · subst h0; simp [seg_zero, val]
    · rw [if_neg h0]
      obtain ⟨m, rfl⟩ : ∃ m, n = m + 1 := ⟨n - 1, by omega⟩
      have e : (List.replicate (m + 1 + 1) 0).set 0 chunk = chunk :: List.replicate (m + 1) 0 := by simp [List.replicate_succ]
      rw [e]
      have e2 : seg (chunk :: List.replicate (m + 1) 0) 0 (m + 1) = chunk :: List.replicate m 0 := by simp [seg]
      rw [e2, val, val_replicate, Nat.mul_zero, Nat.add_zero]
  have hs2 : Seg (w1.setCell ⟨w.heap.size, 0, none⟩ (.int .u64 (chunk : Nat))) ao la := hs.only_new he1 (Nat.le_refl _) ho2
  have hE2 : Ext w (w1.setCell ⟨w.heap.size, 0, none⟩ (.int .u64 (chunk : Nat))) := he1.only ho2 (Nat.le_refl _)
  clear hcz hfz
  generalize w1.setCell ⟨w.heap.size, 0, none⟩ (.int .u64 (chunk : Nat)) = w2 at *
  generalize (List.replicate (n + 1) 0).set 0 chunk = R at *
  obtain ⟨y, hy⟩ : ∃ y, R.getD n 0 = y := ⟨_, rfl⟩
  have hcn := hr2.cell n (by omega)
  rw [hy] at hcn hyR
  have Hy := hid hy; have HyR := hid hyR; have HvR := hid hvR; have HlR := hid hlR
  have Hap : Hid (Calls Tryz.prog 87 #[.slice (some ⟨w.heap.size, 0, none⟩) n (n + 1), .slice ao n c, .int .u64 10000000000000000000] w2.drew fun e w' =>
      ∃ (M : List Nat) (over : Nat), e = .returned (.int .u64 over) ∧ over < B64 ∧ Row w' w.heap.size M ∧ Dig M ∧ Turned R M 0 n ∧ Only w.heap.size w2 w' ∧ y + over ≤ 18446744073709551615 ∧ Hid (val (M.set n (y + over)) = chunk + val la * 10000000000000000000)) := by
    refine (addProduct_n w.heap.size 0 (n + 1) ao n c la R 10000000000000000000 w2.drew Hl.out hr2 hs2 (hs.block_ne (Nat.le_refl _)) hdR hd (by rw [B64_eq]; omega) (by rw [HlR.out]; omega) (by rw [HlR.out]; unfold maxLen; omega) (by omega) hc).mono ?_
    rintro e w3 ⟨M, over, rfl, hov, hr3, hd3, hT3, ho3, Hv3⟩
    refine ⟨M, over, rfl, hov, hr3, hd3, hT3, ho3.undrawn, ?_⟩
    have hv3 := Hv3.out
    rw [HvR.out] at hv3
    have hM : M.length = n + 1 := by rw [hT3.1]; exact HlR.out
    by_cases h0 : n = 0
    · subst h0
      have hla : la = [] := List.eq_nil_of_length_eq_zero Hl.out
      subst hla
      simp only [seg_zero, val, Nat.pow_zero, Nat.one_mul, if_true, Nat.zero_mul, Nat.zero_add, Nat.add_zero] at hv3
      subst hv3
      have hyc : y = chunk := by rw [HyR.out]; simp
      rw [B64_eq] at hcB
      refine ⟨by omega, ?_⟩
      show val _ = _
      obtain ⟨m, rfl⟩ : ∃ m, M = [m] := List.length_eq_one_iff.1 hM
      simp [val, hyc]
    · have hy0 : y = 0 := by rw [HyR.out, if_neg h0]
      rw [if_neg h0] at hv3
      subst hy0
      rw [B64_eq] at hov
      refine ⟨by omega, ?_⟩
      show val _ = _
      rw [Nat.zero_add]
      exact chunk_val hM hv3
  clear hy hyR hvR hlR
  go_region_with ((go_at_call 87; refine Hap.out.mono ?_; rintro e w3 ⟨M, over, rfl, hov, hr3, hd3, hT3, ho3, hsum, Hv3⟩; have hc6 := hr3.cell n (by rw [hT3.1, HlR.out]; omega); rw [hT3.2 n (by omega), Hy.out] at hc6; have hf6 := hr3.frozen n))
  all_goals
    go_wp2_with fail
    have hr4 := hr3.set n (y + over)
    have hd4 := hd3.set n (y + over) (by rw [B64_eq]; omega)
    have hs4 := hr4.segAll
    have hM4 : (M.set n (y + over)).length = n + 1 := by rw [List.length_set, hT3.1]; exact HlR.out
    refine (trim_n _ (M.set n (y + over)) _ _ _ hM4 (Nat.le_refl _) (by unfold maxLen; omega) hs4).mono ?_
    rintro e w5 ⟨rfl, rfl⟩
    go_wp2_with fail
    go_ret
    exact ⟨_, rfl, (num_trim hs4 hd4 (by rw [hM4]; unfold maxLen; omega)).cast Hv3.out, (hE2.only ho3 (Nat.le_refl _)).only ((Only.refl _ _).setCell _ _) (Nat.le_refl _)⟩

end Go.Proofs.YtdiojbgbeeojkaaGreatDoor

/-
  Reading numbers: readNumber.
-/
namespace Go.Proofs.YtdiojbgbeeojkaaGreatDoor
open Go.RowKit

theorem dval_append (a b : List Nat) : dval (a ++ b) = dval a * 10 ^ b.length + dval b := by
  induction hn : b.length generalizing b with
  | zero => have : b = [] := List.eq_nil_of_length_eq_zero hn; subst this; simp [dval]
  | succ n ih =>
    have hl : b = b.take n ++ [b.getD n 0] := by
      have := take_succ_getD b n (by omega)
      rw [List.take_of_length_le (by omega)] at this
      exact this
    have hlt : (b.take n).length = n := by rw [List.length_take]; omega
    have h1 := ih (b.take n) hlt
    have e1 : dval b = 10 * dval (b.take n) + (b.getD n 0 - 48) := by
      have := dval_snoc (b.take n) (b.getD n 0)
      rw [← hl] at this; exact this
    have e2 : dval (a ++ b) = 10 * dval (a ++ b.take n) + (b.getD n 0 - 48) := by
      have := dval_snoc (a ++ b.take n) (b.getD n 0)
      rw [List.append_assoc, ← hl] at this; exact this
    rw [e2, h1, e1, Nat.pow_succ]
    generalize dval a = x
    generalize dval (b.take n) = y
    generalize 10 ^ n = z
    rw [Nat.mul_add, ← Nat.mul_assoc, Nat.mul_comm 10 x, Nat.mul_assoc x, Nat.mul_comm 10 z]
    omega

/-- All are digits. -/
def AllD (l : List Nat) : Prop := ∀ t, t < l.length → isD (l.getD t 0) = true
theorem AllD.drop {l : List Nat} (h : AllD l) (n : Nat) : AllD (l.drop n) := fun t ht => by
  rw [List.length_drop] at ht
  rw [drop_getD]; exact h (n + t) (by omega)
theorem AllD.take {l : List Nat} (h : AllD l) (n : Nat) : AllD (l.take n) := fun t ht => by
  rw [List.length_take] at ht
  rw [List.getD_eq_getElem?_getD, List.getElem?_take, if_pos (by omega), ← List.getD_eq_getElem?_getD]; exact h t (by omega)

theorem ten_le (k : Nat) : 10 ^ k ≤ B64 ^ k := Nat.pow_le_pow_left (by rw [B64_eq]; omega) k

theorem take_app (a b : List Nat) (m : Nat) : (a ++ b).take (a.length + m) = a ++ b.take m := by
  induction a with
  | nil => simp
  | cons x r ih => rw [List.cons_append, List.length_cons, show r.length + 1 + m = (r.length + m) + 1 from by omega, List.take_succ_cons, ih, List.cons_append]

/-- One round of readNumber, in plain numbers. -/
theorem read_step {used t : List Nat} {v : Nat} (hv : v = dval used) (ht : 0 < t.length) (hu : used = [] ∨ t.length % 19 = 0) :
    dval (t.take ((t.length - 1) % 19 + 1)) + v * 10000000000000000000 = dval (used ++ t.take ((t.length - 1) % 19 + 1)) := by
  rw [dval_append, hv]
  rcases hu with rfl | hu
  · simp [dval]
  · have hm : (t.length - 1) % 19 + 1 = 19 := by omega
    have hl : (t.take 19).length = 19 := by rw [List.length_take]; omega
    rw [hm, hl]
    rw [Nat.add_comm]

set_option maxHeartbeats 1000000 in
set_option maxRecDepth 100000 in
theorem readNumber_any (s : ByteArray) (w : World) (hs : (bs s).length - sgl (bs s) ≤ 1000) (had : AllD ((bs s).drop (sgl (bs s)))) :
    Calls Tryz.prog 32 #[.string s] w fun e w' => ∃ (sm : Int) (a' : Option Addr) (n' c' : Nat), e = .returned (.agg #[.int .i64 sm, .slice a' n' c']) ∧ IsInt w' sm a' n' c' (sgn (decide (0 < sgl (bs s))) (dval ((bs s).drop (sgl (bs s))))) ∧ Ext w w' := by
  have hR : Res (w.alloc (.cells #[.int .i64 0, .slice none 0 0] 24)) w.heap.size := ⟨by simp, heap_alloc_new w _⟩
  have hE : Ext w (w.alloc (.cells #[.int .i64 0, .slice none 0 0] 24)) := Ext.alloc _ _
  have hsl := sgl_le (bs s)
  rw [bs_length] at hsl hs
  have hext : bs (s.extract (sgl (bs s)) s.size) = (bs s).drop (sgl (bs s)) := by
    rw [bs_extract, List.take_of_length_le]
    rw [List.length_drop, bs_length]; omega
  have Hsl := hid (fun wx => signLength_any s wx (by omega))
  obtain ⟨g, hg⟩ : ∃ g, sgl (bs s) = g := ⟨_, rfl⟩
  rw [hg] at hsl hs had hext Hsl ⊢
  obtain ⟨D, hD⟩ : ∃ D, (bs s).drop g = D := ⟨_, rfl⟩
  have hDl : D.length = s.size - g := by rw [← hD, List.length_drop, bs_length]
  rw [hD] at had hext ⊢
  obtain ⟨hg1, hg2⟩ := hsl
  have hgi : (g : Int) ≤ (s.size : Int) := by omega
  have HDl := hid hDl; have Hext := hid hext; have Had := hid had
  have hsz' : (s.extract g s.size).size = s.size - g := by rw [← bs_length, hext, hDl]
  have Hsz' := hid hsz'
  clear hDl hext hD hg had hsz'
  obtain ⟨nb, hnb⟩ : ∃ nb, decide (0 < g) = nb := ⟨_, rfl⟩
  rw [hnb]
  have Hnb := hid hnb
  clear hnb
  go_enter Tryz.func32, Tryz.ntmps32
  go_wp2_with fail
  generalize w.alloc (.cells #[.int .i64 0, .slice none 0 0] 24) = W0 at *
  refine (Hsl.out _).mono ?_
  rintro e w1 ⟨rfl, rfl⟩
  go_wp2_with fail
  obtain ⟨d0, hd0⟩ : ∃ d0, s.extract g s.size = d0 := ⟨_, rfl⟩
  rw [hd0] at Hext Hsz' ⊢
  clear hd0
  go_loopw [4, 5] (fun dv wv wr => ∃ (t : ByteArray) (used : List Nat) (ao : Option Addr) (l : List Nat) (n c : Nat), dv = .string t ∧ wv = .slice ao n c ∧ used ++ bs t = D ∧ (used = [] ∨ (bs t).length % 19 = 0) ∧ l.length = n ∧ n ≤ c ∧ c ≤ maxLen ∧ Seg wr ao l ∧ Dig l ∧ n ≤ 1000 ∧ val l = dval used ∧ Ext W0 wr)
    (fun dv _ _ => match dv with | .string t => t.size | _ => 0)
  case atStart => exact ⟨d0, [], none, [], 0, 0, rfl, rfl, by rw [List.nil_append]; exact Hext.out, Or.inl rfl, rfl, Nat.le_refl _, Nat.zero_le _, Or.inl ⟨rfl, rfl⟩, Dig.nil, Nat.zero_le _, rfl, Ext.refl _⟩
  case round =>
    obtain ⟨t, used, ao, l, n, c, rfl, rfl, hsplit, hmod, hl, hc, hcm, hsg, hd, hn, hv, hEr⟩ := hrel
    have Hsplit := hid hsplit; have Hmod := hid hmod; have Hl := hid hl; have Hv := hid hv
    have htl : (bs t).length ≤ 1000 := by
      have := congrArg List.length hsplit
      rw [List.length_append, HDl.out] at this; omega
    rw [bs_length] at htl
    clear hsplit hmod hl hv
    by_cases h0 : t.size = 0
    · have e := bs_nil t h0
      subst e
      have hfin : val l = dval D := by rw [Hv.out, ← Hsplit.out]; simp [bs]
      have Hfin := hid hfin
      clear hfin
      go_wp2_with fail
      rw [Hnb.out]
      refine (fromWords_from (w := W0) nb wr ao l n c hEr Hl.out hsg hd hc hcm).mono ?_
      rintro e w3 ⟨s4, a4, n4, c4, rfl, hI4, he4, hx4⟩
      have hr4 := hR.ext he4
      have k0 := hr4.c0; have k1 := hr4.c1; have g0 := hr4.f0; have g1 := hr4.f1
      go_wp2_with fail
      exact bodyPost_ret (v := .agg #[.int .i64 s4, .slice a4 n4 c4]) (by simp [results, Tryz.results32, go_sem, k0, k1]) rfl ⟨s4, a4, n4, c4, rfl, (hI4.cast (by rw [Hfin.out])).setRes hr4.row _ _, (hE.trans he4).setRes (Nat.le_refl _) _ _⟩
    · have hp : 0 < t.size := by omega
      have he := bs_empty t hp
      obtain ⟨m, hm⟩ : ∃ m, (t.size - 1) % 19 + 1 = m := ⟨_, rfl⟩
      have em : ((t.size : Int) - 1) % 19 + 1 = (m : Int) := by omega
      have hm1 : m ≤ t.size := by omega
      have hm2 : m ≤ 19 := by omega
      have hm3 : 1 ≤ m := by omega
      have hmi : (m : Int) ≤ (t.size : Int) := by omega
      have hx1 : bs (t.extract 0 m) = (bs t).take m := by rw [bs_extract]; simp
      have hx2 : bs (t.extract m t.size) = (bs t).drop m := by
        rw [bs_extract, List.take_of_length_le]
        rw [List.length_drop, bs_length]; omega
      have hadt : AllD (bs t) := by
        have : bs t = D.drop used.length := by rw [← Hsplit.out]; simp
        rw [this]; exact Had.out.drop _
      have hxl : (t.extract 0 m).size = m := by rw [← bs_length, hx1, List.length_take, bs_length]; omega
      have Hrc := hid (fun wx => readChunk_any (t.extract 0 m) wx (by rw [hxl]; exact hm2) (fun i hi => by rw [hx1]; exact hadt.take m i (by rw [List.length_take, bs_length]; omega)))
      have hchl : dval ((bs t).take m) < 10 ^ 19 := by
        have h5 := dval_lt ((bs t).take m) (hadt.take m)
        have h6 : ((bs t).take m).length = m := by rw [List.length_take, bs_length]; omega
        rw [h6] at h5
        exact Nat.lt_of_lt_of_le h5 (Nat.pow_le_pow_right (by omega) hm2)
      rw [hx1] at Hrc
      have hstep := read_step (used := used) (t := bs t) Hv.out (by rw [bs_length]; exact hp) Hmod.out
      rw [bs_length, hm] at hstep
      obtain ⟨ch, hch⟩ : ∃ ch, dval ((bs t).take m) = ch := ⟨_, rfl⟩
      rw [hch] at Hrc hchl hstep
      have hch' : ch < 10000000000000000000 := hchl
      have Hstep := hid hstep; have Hx2 := hid hx2; have Hm := hid hm; have Hadt := hid hadt
      have hlu : used.length + t.size ≤ 1000 := by
        have := congrArg List.length Hsplit.out
        rw [List.length_append, HDl.out, bs_length] at this; omega
      clear hm hx1 hx2 hadt hxl hchl hstep hch h0
      go_wp2_with fail
      refine (Hrc.out _).mono ?_
      rintro e w3 ⟨rfl, rfl⟩
      go_wp2_with fail
      refine (appendChunk_any ao l n c ch wr Hl.out hsg hd hc (by omega) hch').mono ?_
      rintro e w4 ⟨_, rfl, hnum, hx4⟩
      obtain ⟨a5, l5, n5, c5, rfl, hl5, hn5, hc5, hs5, hd5, hr5, hv5⟩ := hnum.named
      have hv6 : val l5 = dval (used ++ (bs t).take m) := by rw [hv5]; exact Hstep.out
      have hn6 : n5 ≤ 1000 := by
        rw [← hl5]
        apply lt_len hr5
        rw [hv6]
        have h7 : AllD (used ++ (bs t).take m) := by
          have : used ++ (bs t).take m = D.take (used.length + m) := by
            rw [← Hsplit.out]; exact (take_app used (bs t) m).symm
          rw [this]; exact Had.out.take _
        have h8 := dval_lt _ h7
        have h9 : (used ++ (bs t).take m).length ≤ 1000 := by rw [List.length_append, List.length_take, bs_length]; omega
        exact Nat.lt_of_lt_of_le h8 (Nat.le_trans (Nat.pow_le_pow_right (by omega) h9) (ten_le 1000))
      have Hl5 := hid hl5; have Hv6 := hid hv6
      clear hl5 hv5 hv6 hnum
      go_wp2_with fail
      go_roundw
      case rel => exact ⟨t.extract m t.size, used ++ (bs t).take m, a5, l5, n5, c5, rfl, rfl, by rw [Hx2.out, List.append_assoc, List.take_append_drop]; exact Hsplit.out, Or.inr (by rw [Hx2.out, List.length_drop, bs_length]; have := Hm.out; omega), Hl5.out, hn5, hc5, hs5, hd5, hn6, Hv6.out, hEr.trans hx4⟩
      case measure =>
        show (t.extract m t.size).size < t.size
        rw [← bs_length, Hx2.out, List.length_drop, bs_length]; omega

end Go.Proofs.YtdiojbgbeeojkaaGreatDoor
