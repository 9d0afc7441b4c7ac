/-
  Integers as the program keeps them, and the small calls on them.
-/
import Derived.Test.YtdiojbgbeeojkaaGreatDoorMDivL
import Derived.Laws.ResultCell

namespace Go.Proofs.YtdiojbgbeeojkaaGreatDoor
open Go.RowKit

/-- The two cells of a number hold z. -/
def IsInt (w : World) (sm : Int) (ao : Option Addr) (n c : Nat) (z : Int) : Prop :=
  (ao = none ∧ n = 0 ∧ c = 0 ∧ sm = z ∧ -9223372036854775808 ≤ z ∧ z ≤ 9223372036854775807) ∨
  (∃ (b o : Nat) (l : List Nat), ao = some ⟨b, o, none⟩ ∧ l.length = n ∧ n ≤ c ∧ c ≤ maxLen ∧ Seg w (some ⟨b, o, none⟩) l ∧ Dig l ∧ Nrm l ∧ ((sm = -1 ∧ z = -(val l : Int) ∧ 9223372036854775808 < val l) ∨ (sm = 1 ∧ z = (val l : Int) ∧ 9223372036854775807 < val l)))

theorem IsInt.ext {w w' : World} {sm : Int} {ao : Option Addr} {n c : Nat} {z : Int} (h : IsInt w sm ao n c z) (k : Ext w w') : IsInt w' sm ao n c z := by
  rcases h with h | ⟨b, o, l, h1, h2, h3, h4, h5, h6⟩
  · exact Or.inl h
  · exact Or.inr ⟨b, o, l, h1, h2, h3, h4, h5.ext k, h6⟩

theorem IsInt.small (w : World) (z : Int) (h1 : -9223372036854775808 ≤ z) (h2 : z ≤ 9223372036854775807) : IsInt w z none 0 0 z := Or.inl ⟨rfl, rfl, rfl, rfl, h1, h2⟩

/-- The sign stands in the first cell. -/
theorem IsInt.sign {w : World} {sm : Int} {ao : Option Addr} {n c : Nat} {z : Int} (h : IsInt w sm ao n c z) : (sm < 0 ↔ z < 0) ∧ (sm = 0 ↔ z = 0) ∧ -9223372036854775808 ≤ sm ∧ sm ≤ 9223372036854775807 := by
  rcases h with ⟨_, _, _, rfl, h1, h2⟩ | ⟨b, o, l, _, _, _, _, _, _, _, ⟨rfl, rfl, h⟩ | ⟨rfl, rfl, h⟩⟩ <;> omega

theorem IsInt.cast {w : World} {sm : Int} {ao : Option Addr} {n c : Nat} {z z' : Int} (h : IsInt w sm ao n c z) (e : z = z') : IsInt w sm ao n c z' := e ▸ h

/-- At most k words. -/
def Fit (k : Nat) (z : Int) : Prop := z.natAbs < B64 ^ k

theorem IsInt.len {w : World} {sm : Int} {ao : Option Addr} {n c : Nat} {z : Int} (h : IsInt w sm ao n c z) {k : Nat} (hf : Fit k z) : n ≤ k := by
  rcases h with ⟨_, rfl, _⟩ | ⟨b, o, l, _, rfl, _, _, _, d, m, hz⟩
  · exact Nat.zero_le _
  · have hv : val l < B64 ^ k := by
      unfold Fit at hf
      rcases hz with ⟨_, rfl, _⟩ | ⟨_, rfl, _⟩ <;> omega
    apply Nat.le_of_not_lt
    intro hk
    have h1 := m.ge (by intro e; subst e; simp at hk)
    have h2 : B64 ^ k ≤ B64 ^ (l.length - 1) := Nat.pow_le_pow_right B64_pos (by omega)
    omega

theorem eql_nil (a : Option Addr) (n c n' c' : Nat) (w : World) : (binOp .eql 22 (.slice a n c) (.slice none n' c')).run Tryz.prog w = .ok (.bool a.isNone) w := Lib.run_eql_slice_nil w _ _ a n c n' c' Tryz.underlying22
theorem neq_nil (a : Option Addr) (n c n' c' : Nat) (w : World) : (binOp .neq 22 (.slice a n c) (.slice none n' c')).run Tryz.prog w = .ok (.bool (!a.isNone)) w := run_neq_slice_nil_any w _ _ a n c n' c' Tryz.underlying22

set_option maxHeartbeats 400000 in
theorem negative_any (sm : Int) (lv : Value) (w : World) :
    Calls Tryz.prog 43 #[.agg #[.int .i64 sm, lv]] w fun e w' => e = .returned (.bool (decide (sm < 0))) ∧ Ext w w' := by
  go_enter Tryz.func43, Tryz.ntmps43
  go_wp2
  go_ret
  exact ⟨rfl, Ext.alloc _ _⟩

set_option maxHeartbeats 400000 in
theorem wordOf_any (n : Int) (h1 : -9223372036854775808 ≤ n) (h2 : n ≤ 9223372036854775807) (w : World) :
    Calls Tryz.prog 78 #[.int .i64 n] w fun e w' => e = .returned (.int .u64 (n.natAbs : Nat)) ∧ w = w' := by
  by_cases hn : n < 0
  · have e1 : IntKind.u64.wrap n = n + 18446744073709551616 := by rw [IntKind.wrap_u64]; omega
    obtain ⟨a, ha⟩ : ∃ a : Nat, n.natAbs = a := ⟨_, rfl⟩
    have e2 : IntKind.u64.wrap (-(n + 18446744073709551616)) = (a : Int) := by rw [IntKind.wrap_u64]; omega
    rw [ha]
    clear ha
    go_enter Tryz.func78, Tryz.ntmps78
    go_wp2
    go_ret
    exact ⟨rfl, rfl⟩
  · obtain ⟨a, rfl⟩ : ∃ a : Nat, n = (a : Int) := ⟨n.toNat, by omega⟩
    rw [Int.natAbs_natCast]
    go_enter Tryz.func78, Tryz.ntmps78
    go_wp2
    go_ret
    exact ⟨rfl, rfl⟩

set_option maxHeartbeats 400000 in
theorem short_any (s1 s2 : Int) (a1 a2 : Option Addr) (n1 c1 n2 c2 : Nat) (w : World) :
    Calls Tryz.prog 68 #[.agg #[.int .i64 s1, .slice a1 n1 c1], .agg #[.int .i64 s2, .slice a2 n2 c2]] w fun e w' => e = .returned (.bool (a1.isNone && a2.isNone)) ∧ Ext w w' := by
  have q1 := eql_nil a1 n1 c1 0 0
  have q2 := eql_nil a2 n2 c2 0 0
  cases a1 with
  | none =>
    go_enter Tryz.func68, Tryz.ntmps68
    go_wp2
    go_ret
    exact ⟨rfl, (Ext.alloc _ _).trans (Ext.alloc _ _)⟩
  | some a =>
    go_enter Tryz.func68, Tryz.ntmps68
    go_wp2
    go_ret
    exact ⟨rfl, (Ext.alloc _ _).trans (Ext.alloc _ _)⟩

set_option maxHeartbeats 400000 in
set_option maxRecDepth 100000 in
/-- words: those of the number's size. -/
theorem words_any (sm : Int) (ao : Option Addr) (n c : Nat) (z : Int) (w : World) (h : IsInt w sm ao n c z) :
    Calls Tryz.prog 71 #[.agg #[.int .i64 sm, .slice ao n c]] w fun e w' => ∃ v, e = .returned v ∧ Num w' v z.natAbs ∧ Ext w w' := by
  have q1 := neq_nil ao n c 0 0
  rcases h with ⟨rfl, rfl, rfl, rfl, h1, h2⟩ | ⟨b, o, l, rfl, hl, hc, hm, hs, hd, hn, hz⟩
  · have hxB : sm.natAbs < B64 := by rw [B64_eq]; omega
    have Hw := hid (wordOf_any sm h1 h2)
    obtain ⟨x, hx⟩ : ∃ x, sm.natAbs = x := ⟨_, rfl⟩
    rw [hx] at Hw hxB ⊢
    have hd : Dig [x] := Dig.cons hxB Dig.nil
    clear hx
    go_enter Tryz.func71, Tryz.ntmps71
    go_wp2_with fail
    refine (Hw.out _).mono ?_
    rintro e w1 ⟨rfl, rfl⟩
    go_wp2_with fail
    have hsn := Seg.new1 (w.alloc (.cells #[.int .i64 sm, .slice none 0 0] 24)) x 92
    rw [show (w.alloc (.cells #[.int .i64 sm, .slice none 0 0] 24)).heap.size = w.heap.size + 1 from by simp] at hsn
    refine (trim_n _ [x] 1 1 _ rfl (Nat.le_refl _) (by unfold maxLen; omega) hsn).mono ?_
    rintro e w4 ⟨rfl, rfl⟩
    go_wp2_with fail
    go_ret
    exact ⟨_, rfl, (num_trim hsn hd (by simp [maxLen])).cast (by simp [val]), (Ext.alloc _ _).trans (Ext.alloc _ _)⟩
  · have hv : val l = z.natAbs := by rcases hz with ⟨_, rfl, _⟩ | ⟨_, rfl, _⟩ <;> omega
    have Hl := hid hl; have Hv := hid hv
    clear hl hv hz
    go_enter Tryz.func71, Tryz.ntmps71
    go_wp2
    go_ret
    exact ⟨_, rfl, ⟨_, l, c, by rw [Hl.out]; rfl, by rw [Hl.out]; exact hc, hm, hs.ext (Ext.alloc _ _), hd, hn, Hv.out⟩, Ext.alloc _ _⟩

end Go.Proofs.YtdiojbgbeeojkaaGreatDoor

/-
  fromWord and fromWords: numbers made of their sizes.
-/
namespace Go.Proofs.YtdiojbgbeeojkaaGreatDoor
open Go.RowKit

/-- The number with this sign and this size. -/
def sgn (neg : Bool) (x : Nat) : Int := if neg then -(x : Int) else (x : Int)

/-- An int holds it. -/
def fits (neg : Bool) (x : Nat) : Bool := if neg then decide (x ≤ 9223372036854775808) else decide (x ≤ 9223372036854775807)

set_option maxHeartbeats 400000 in
set_option maxRecDepth 100000 in
theorem fromWord_any (neg : Bool) (x : Nat) (hx : x < B64) (w : World) :
    Calls Tryz.prog 89 #[.bool neg, .int .u64 x] w fun e w' => ∃ sm : Int, e = .returned (.tuple #[.agg #[.int .i64 sm, .slice none 0 0], .bool (fits neg x)]) ∧ (fits neg x = true → sm = sgn neg x) ∧ Ext w w' := by
  rw [B64_eq] at hx
  cases neg with
  | true =>
    obtain ⟨sm, hsm⟩ : ∃ sm : Int, IntKind.i64.wrap (IntKind.u64.wrap (-(x : Int))) = sm := ⟨_, rfl⟩
    have Hs : Hid (fits true x = true → sm = sgn true x) := by
      intro h
      simp only [fits, if_true, decide_eq_true_eq] at h
      rw [← hsm, IntKind.wrap_u64, IntKind.wrap_i64]
      simp only [sgn, if_true]
      omega
    by_cases hf : x ≤ 9223372036854775808
    · have hb : fits true x = true := by simp [fits, hf]
      have hf' : (x : Int) ≤ 9223372036854775808 := by omega
      rw [hb]
      clear hf hb
      go_enter Tryz.func89, Tryz.ntmps89
      go_wp2
      exact bodyPost_ret (v := .tuple #[.agg #[.int .i64 sm, .slice none 0 0], .bool true]) (by simp [results, Tryz.results89, go_sem]) rfl ⟨sm, rfl, fun _ => Hs.out (by simp [fits]; omega), Ext.alloc _ _⟩
    · have hb : fits true x = false := by simp [fits]; omega
      have hf' : ¬ (x : Int) ≤ 9223372036854775808 := by omega
      rw [hb]
      clear hf hb
      go_enter Tryz.func89, Tryz.ntmps89
      go_wp2
      exact bodyPost_ret (v := .tuple #[.agg #[.int .i64 sm, .slice none 0 0], .bool false]) (by simp [results, Tryz.results89, go_sem]) rfl ⟨⟨sm, rfl⟩, Ext.alloc _ _⟩
  | false =>
    obtain ⟨sm, hsm⟩ : ∃ sm : Int, IntKind.i64.wrap (x : Int) = sm := ⟨_, rfl⟩
    have Hs : Hid (fits false x = true → sm = sgn false x) := by
      intro h
      simp only [fits, Bool.false_eq_true, if_false, decide_eq_true_eq] at h
      rw [← hsm, IntKind.wrap_i64]
      simp only [sgn, Bool.false_eq_true, if_false]
      omega
    by_cases hf : x ≤ 9223372036854775807
    · have hb : fits false x = true := by simp [fits, hf]
      have hf' : (x : Int) ≤ 9223372036854775807 := by omega
      have e : sm = (x : Int) := Hs.out hb
      rw [hb]
      clear hf hb hsm
      go_enter Tryz.func89, Tryz.ntmps89
      go_wp2
      exact bodyPost_ret (v := .tuple #[.agg #[.int .i64 (x : Int), .slice none 0 0], .bool true]) (by simp [results, Tryz.results89, go_sem]) rfl ⟨(x : Int), rfl, fun _ => by simp [sgn], Ext.alloc _ _⟩
    · have hb : fits false x = false := by simp [fits]; omega
      have hf' : ¬ (x : Int) ≤ 9223372036854775807 := by omega
      rw [hb]
      clear hf hb
      go_enter Tryz.func89, Tryz.ntmps89
      go_wp2
      exact bodyPost_ret (v := .tuple #[.agg #[.int .i64 sm, .slice none 0 0], .bool false]) (by simp [results, Tryz.results89, go_sem]) rfl ⟨⟨sm, rfl⟩, Ext.alloc _ _⟩

theorem fits_iff (neg : Bool) (x : Nat) : fits neg x = true ↔ (-9223372036854775808 ≤ sgn neg x ∧ sgn neg x ≤ 9223372036854775807) := by
  cases neg <;> simp [fits, sgn] <;> omega

/-- A result of two cells, laid where the call made room for it first. -/
theorem Ext.res {w w5 : World} {o0 : Obj} (he : Ext (w.alloc o0) w5) (u v : Value) : Ext w ((w5.setCell ⟨w.heap.size, 0, none⟩ u).setCell ⟨w.heap.size, 1, none⟩ v) :=
  (((Ext.alloc w o0).trans he).setCell (Nat.le_refl _) u).setCell (Nat.le_refl _) v

theorem Ext.then {w w1 : World} (he : Ext w w1) (o : Obj) : Ext w (w1.alloc o) := he.trans (Ext.alloc _ _)

/-- A long number of words. -/
theorem IsInt.long {w : World} {neg : Bool} {b o c : Nat} {l : List Nat} (hs : Seg w (some ⟨b, o, none⟩) l) (hd : Dig l) (hm : Nrm l) (hc : l.length ≤ c) (hcm : c ≤ maxLen) (hf : fits neg (val l) = false) :
    IsInt w (if neg then -1 else 1) (some ⟨b, o, none⟩) l.length c (sgn neg (val l)) := by
  refine Or.inr ⟨b, o, l, rfl, rfl, hc, hcm, hs, hd, hm, ?_⟩
  cases neg
  · right; simp [fits] at hf; simp [sgn]; omega
  · left; simp [fits] at hf; simp [sgn]; omega

set_option maxHeartbeats 600000 in
set_option maxRecDepth 100000 in
theorem fromWords_any (neg : Bool) (ao : Option Addr) (l : List Nat) (n c : Nat) (w : World) (hl : l.length = n) (hs : Seg w ao l) (hd : Dig l) (hc : n ≤ c) (hcm : c ≤ maxLen) :
    Calls Tryz.prog 62 #[.bool neg, .slice ao n c] w fun e w' => ∃ (sm : Int) (a' : Option Addr) (n' c' : Nat), e = .returned (.agg #[.int .i64 sm, .slice a' n' c']) ∧ IsInt w' sm a' n' c' (sgn neg (val l)) ∧ Ext w w' := by
  have Hl := hid hl
  have hnl := nlen_le l
  rw [hl] at hnl
  have hea : Ext w (w.alloc (.cells #[.int .i64 0, .slice none 0 0] 24)) := Ext.alloc _ _
  have hlt : (l.take (nlen l)).length = nlen l := by rw [List.length_take]; have := nlen_le l; omega
  have hvt := val_take_nlen l
  have hnt := Nrm_take l
  have hdt := hd.take (nlen l)
  have hst := hs.take (nlen l)
  obtain ⟨t, ht⟩ : ∃ t, l.take (nlen l) = t := ⟨_, rfl⟩
  obtain ⟨k, hk⟩ : ∃ k, nlen l = k := ⟨_, rfl⟩
  rw [ht] at hlt hvt hnt hdt hst
  have Hk := hid hk
  rw [hk] at hlt hnl
  have Hlt := hid hlt; have Hvt := hid hvt
  have Htrim : Hid (Calls Tryz.prog 88 #[.slice ao n c] (w.alloc (.cells #[.int .i64 0, .slice none 0 0] 24)) fun e w' => e = .returned (.slice ao k k) ∧ (w.alloc (.cells #[.int .i64 0, .slice none 0 0] 24)) = w') := by
    rw [← Hk.out]
    exact trim_n ao l n c _ Hl.out hc hcm (hs.ext hea)
  clear hl ht hk hlt hvt
  have hkm : k ≤ maxLen := by omega
  by_cases hk0 : k = 0
  · have ht0 : t = [] := List.eq_nil_of_length_eq_zero (by rw [Hlt.out]; exact hk0)
    have hz : sgn neg (val l) = 0 := by rw [← Hvt.out, ht0]; cases neg <;> simp [sgn, val]
    rw [hz]
    subst hk0
    clear ht0 hz
    go_enter Tryz.func62, Tryz.ntmps62
    go_wp2_with fail
    refine Htrim.out.mono ?_
    rintro e w4 ⟨rfl, rfl⟩
    go_wp2_with fail
    exact bodyPost_ret (v := .agg #[.int .i64 0, .slice none 0 0]) (by simp [results, Tryz.results62, go_sem]) rfl ⟨0, none, 0, 0, rfl, IsInt.small _ 0 (by omega) (by omega), Ext.alloc _ _⟩
  · have hb0 : ((k : Int) == 0) = false := by rw [beq_eq_false_iff_ne]; omega
    have hstk := hst
    rcases hst with ⟨_, h⟩ | ⟨b, o, rfl, hb, hcell⟩
    · have := Hlt.out; rw [h] at this; simp at this; omega
    by_cases hk1 : k = 1
    · subst hk1
      obtain ⟨x, rfl⟩ : ∃ x, t = [x] := List.length_eq_one_iff.1 Hlt.out
      have hxB : x < B64 := hdt x (List.mem_cons_self ..)
      have hcl := (hea.cell (p := ⟨b, o + 0, none⟩) hb).trans (hcell 0 (by simp))
      simp only [Nat.add_zero, List.getD_cons_zero] at hcl
      have hxv : x = val l := by rw [← Hvt.out]; simp [val]
      have Hxv := hid hxv
      clear hcell hxv
      by_cases hf : fits neg x = true
      · go_enter Tryz.func62, Tryz.ntmps62
        go_wp2_with fail
        refine Htrim.out.mono ?_
        rintro e w4 ⟨rfl, rfl⟩
        go_wp2_with fail
        refine (fromWord_any neg x hxB _).mono ?_
        rintro e w5 ⟨sm, rfl, hsm, he5⟩
        have k0 := (he5.cell (p := ⟨w.heap.size, 0, none⟩) (by simp)).trans (show _ = some (.int .i64 0) from by simp)
        have k1 := (he5.cell (p := ⟨w.heap.size, 1, none⟩) (by simp)).trans (show _ = some (.slice none 0 0) from by simp)
        have f0 := (he5.frozen (p := ⟨w.heap.size, 0, none⟩) (by simp)).trans (show _ = false from by simp)
        have f1 := (he5.frozen (p := ⟨w.heap.size, 1, none⟩) (by simp)).trans (show _ = false from by simp)
        have hz5 : w.heap.size < w5.heap.size := by have := he5.size; simp at this; omega
        go_wp2_with fail
        have hrg := (fits_iff neg x).1 hf
        exact bodyPost_ret (v := .agg #[.int .i64 (sgn neg x), .slice none 0 0]) (by simp [results, Tryz.results62, go_sem, k0, k1, hz5]) rfl ⟨sgn neg x, none, 0, 0, rfl, by rw [← Hxv.out]; exact IsInt.small _ _ hrg.1 hrg.2, (Ext.res he5 _ _).then _⟩
      · have hff : fits neg x = false := by simpa using hf
        have hffl : fits neg (val [x]) = false := by simpa [val] using hff
        have hxs : sgn neg (val [x]) = sgn neg (val l) := by rw [Hvt.out]
        have Hffl := hid hffl; have Hxs := hid hxs
        clear hf hffl hxs
        cases neg
        all_goals
          go_enter Tryz.func62, Tryz.ntmps62
          go_wp2_with fail
          refine Htrim.out.mono ?_
          rintro e w4 ⟨rfl, rfl⟩
          go_wp2_with fail
          refine (fromWord_any _ x hxB _).mono ?_
          rintro e w5 ⟨sm, rfl, hsm, he5⟩
          have k0 := (he5.cell (p := ⟨w.heap.size, 0, none⟩) (by simp)).trans (show _ = some (.int .i64 0) from by simp)
          have k1 := (he5.cell (p := ⟨w.heap.size, 1, none⟩) (by simp)).trans (show _ = some (.slice none 0 0) from by simp)
          have f0 := (he5.frozen (p := ⟨w.heap.size, 0, none⟩) (by simp)).trans (show _ = false from by simp)
          have f1 := (he5.frozen (p := ⟨w.heap.size, 1, none⟩) (by simp)).trans (show _ = false from by simp)
          have hz5 : w.heap.size < w5.heap.size := by have := he5.size; simp at this; omega
          clear hsm
          go_wp2_with fail
        · exact bodyPost_ret (v := .agg #[.int .i64 1, .slice (some ⟨b, o, none⟩) 1 1]) (by simp [results, Tryz.results62, go_sem, k0, k1, hz5]) rfl ⟨1, _, 1, 1, rfl, by rw [← Hxs.out]; exact IsInt.long (neg := false) (hstk.ext ((Ext.res he5 _ _).then _)) hdt hnt (Nat.le_refl _) hkm Hffl.out, (Ext.res he5 _ _).then _⟩
        · exact bodyPost_ret (v := .agg #[.int .i64 (-1), .slice (some ⟨b, o, none⟩) 1 1]) (by simp [results, Tryz.results62, go_sem, k0, k1, hz5]) rfl ⟨-1, _, 1, 1, rfl, by rw [← Hxs.out]; exact IsInt.long (neg := true) (hstk.ext ((Ext.res he5 _ _).then _)) hdt hnt (Nat.le_refl _) hkm Hffl.out, (Ext.res he5 _ _).then _⟩
    · have hb1 : ((k : Int) == 1) = false := by rw [beq_eq_false_iff_ne]; omega
      have hge : B64 ≤ val t := by
        have h1 := hnt.ge (by intro e; have := Hlt.out; rw [e] at this; simp at this; omega)
        rw [Hlt.out] at h1
        have h2 : B64 ^ 1 ≤ B64 ^ (k - 1) := Nat.pow_le_pow_right B64_pos (by omega)
        rw [Nat.pow_one] at h2
        omega
      have hffl : fits neg (val t) = false := by
        rw [B64_eq] at hge
        cases neg <;> simp [fits] <;> omega
      have hxs : sgn neg (val t) = sgn neg (val l) := by rw [Hvt.out]
      have Hffl := hid hffl; have Hxs := hid hxs
      have hzk : t.length = k := Hlt.out
      have Hzk := hid hzk
      clear hffl hxs hge hcell hzk
      cases neg
      all_goals
        go_enter Tryz.func62, Tryz.ntmps62
        go_wp2_with fail
        refine Htrim.out.mono ?_
        rintro e w4 ⟨rfl, rfl⟩
        go_wp2_with fail
      · exact bodyPost_ret (v := .agg #[.int .i64 1, .slice (some ⟨b, o, none⟩) k k]) (by simp [results, Tryz.results62, go_sem]) rfl ⟨1, _, k, k, rfl, by
          have h5 := IsInt.long (w := w.alloc (.cells #[.int .i64 1, .slice (some ⟨b, o, none⟩) k k] 24)) (neg := false) (hstk.ext (Ext.alloc _ _)) hdt hnt (by rw [Hzk.out]; exact Nat.le_refl k) hkm Hffl.out
          rw [Hzk.out, Hxs.out] at h5
          exact h5, Ext.alloc _ _⟩
      · exact bodyPost_ret (v := .agg #[.int .i64 (-1), .slice (some ⟨b, o, none⟩) k k]) (by simp [results, Tryz.results62, go_sem]) rfl ⟨-1, _, k, k, rfl, by
          have h5 := IsInt.long (w := w.alloc (.cells #[.int .i64 (-1), .slice (some ⟨b, o, none⟩) k k] 24)) (neg := true) (hstk.ext (Ext.alloc _ _)) hdt hnt (by rw [Hzk.out]; exact Nat.le_refl k) hkm Hffl.out
          rw [Hzk.out, Hxs.out] at h5
          exact h5, Ext.alloc _ _⟩

end Go.Proofs.YtdiojbgbeeojkaaGreatDoor
