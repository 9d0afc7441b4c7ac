/-
  Twos: how often 2 divides a number.
-/
import Derived.Test.YtdiojbgbeeojkaaGreatDoorMBase
import Derived.Test.YtdiojbgbeeojkaaGreatDoorMIntE
import Derived.Test.YtdiojbgbeeojkaaGreatDoorMDivU

namespace Go.Proofs.YtdiojbgbeeojkaaGreatDoor
open Go.RowKit

/-- The table of TrailingZeros64 stands. -/
abbrev Bru (w : World) : Prop := TabAt (Tryz.lays29_ren.g 1) Lib.deBruijn64tab w
theorem bru_ext {w w' : World} (h : Bru w) (he : Ext w w') : Bru w' := fun j hj => by
  have := h j hj
  exact (he.cell (World.block_lt_of_cell? w _ this)).trans this

theorem tw_neg {x t : Nat} (h : Tw x t) (ht : t < 64) (hx : x < 18446744073709551616) : Tw (18446744073709551616 - x) t := by
  obtain ⟨m, rfl⟩ := h
  obtain ⟨d, hd⟩ : ∃ d, 64 = t + (d + 1) := ⟨63 - t, by omega⟩
  have e : (18446744073709551616 : Nat) = 2 ^ t * (2 * 2 ^ d) := by
    have : (18446744073709551616 : Nat) = 2 ^ 64 := by decide
    rw [this]
    conv => lhs; rw [hd]
    rw [Nat.pow_add, Nat.pow_succ, Nat.mul_comm (2 ^ d) 2]
  rw [e] at hx ⊢
  have hlt : 2 * m + 1 < 2 * 2 ^ d := Nat.lt_of_mul_lt_mul_left hx
  refine ⟨2 ^ d - m - 1, ?_⟩
  rw [← Nat.mul_sub]
  congr 1
  omega

theorem val_all_zero (l : List Nat) (h : ∀ t, t < l.length → l.getD t 0 = 0) : val l = 0 := by
  induction l with
  | nil => rfl
  | cons x r ih =>
    have hx : x = 0 := by have := h 0 (by simp); simpa using this
    have := ih (fun t ht => by have := h (t + 1) (by simpa using ht); simpa using this)
    rw [val, hx, this, Nat.mul_zero]

set_option maxHeartbeats 1000000 in
set_option maxRecDepth 100000 in
theorem Twos_any (sm : Int) (ao : Option Addr) (n c : Nat) (z : Int) (w : World) (h : IsInt w sm ao n c z) (hn : n ≤ 16777216) (hbr : Bru w) :
    Calls Tryz.prog 64 #[.agg #[.int .i64 sm, .slice ao n c]] w fun e w' => ∃ t : Nat, e = .returned (.int .i64 t) ∧ (z ≠ 0 → Tw z.natAbs t) ∧ (z = 0 → t = 0) ∧ t < 64 * n + 64 ∧ Ext w w' := by
  have hEb := Ext.alloc w (.cells #[.int .i64 sm, .slice ao n c] 24)
  have hc := h.cmp3
  have Hs := hid (Sign_any sm (.slice ao n c))
  have Hbr := hid hbr
  obtain ⟨sg, hsg'⟩ : ∃ sg, cmp3 sm 0 = sg := ⟨_, rfl⟩
  rw [hsg'] at Hs
  have q1 := eql_nil ao n c 0 0
  clear hbr
  by_cases hz : z = 0
  · have hb0 : sg = 0 := by rw [← hsg', hc, hz]; decide
    subst hb0
    clear h hc hsg'
    go_enter Tryz.func64, Tryz.ntmps64
    go_wp2_with fail
    refine (Hs.out _).mono ?_
    rintro e w1 ⟨rfl, hx1⟩
    go_wp2_with fail
    go_ret
    exact ⟨0, rfl, fun k => absurd hz k, fun _ => rfl, by omega, hEb.trans hx1⟩
  · have hb0 : (sg == 0) = false := by
      rw [beq_eq_false_iff_ne, ← hsg', hc]
      unfold cmp3
      split
      · decide
      · split
        · decide
        · omega
    have Hz := hid hz
    clear hz hc hsg'
    rcases h with ⟨rfl, rfl, rfl, rfl, h1, h2⟩ | ⟨b, o, l, rfl, hl, hnc, hcm, hs, hd, hr, hzz⟩
    · obtain ⟨x, hx⟩ : ∃ x : Nat, IntKind.u64.wrap sm = (x : Int) := ⟨(IntKind.u64.wrap sm).toNat, by rw [IntKind.wrap_u64]; omega⟩
      have hx' : (x : Int) = sm % 18446744073709551616 := by rw [← hx, IntKind.wrap_u64]
      have hxb : x < 18446744073709551616 := by omega
      have hx0 : x ≠ 0 := by have := Hz.out; omega
      have htw := tw_ctz x hx0 (by rw [B64_eq]; exact hxb)
      have Ht : Hid (Tw sm.natAbs (Lib.ctz 64 x)) := by
        by_cases hneg : sm < 0
        · have e : sm.natAbs = 18446744073709551616 - x := by omega
          show Tw _ _
          rw [e]; exact tw_neg htw.1 htw.2 hxb
        · have e : sm.natAbs = x := by omega
          show Tw _ _
          rw [e]; exact htw.1
      have Htz := hid (fun wx (hb : Bru wx) => Tryz.bits_TrailingZeros64 x hxb wx (fun _ => hb))
      obtain ⟨t, ht⟩ : ∃ t, Lib.ctz 64 x = t := ⟨_, rfl⟩
      have htl := htw.2
      rw [ht] at Ht Htz htl
      clear hx' hx0 htw ht
      go_enter Tryz.func64, Tryz.ntmps64
      go_wp2_with fail
      refine (Hs.out _).mono ?_
      rintro e w1 ⟨rfl, hx1⟩
      have k0 := (hx1.cell (p := ⟨w.heap.size, 0, none⟩) (by simp)).trans (show _ = some (.int .i64 sm) from by simp)
      have k1 := (hx1.cell (p := ⟨w.heap.size, 1, none⟩) (by simp)).trans (show _ = some (.slice none 0 0) from by simp)
      go_wp2_with fail
      refine (Htz.out _ (bru_ext Hbr.out (hEb.trans hx1))).mono ?_
      rintro e w2 ⟨rfl, rfl⟩
      go_wp2_with fail
      go_ret
      exact ⟨t, rfl, fun _ => Ht.out, fun k => absurd k Hz.out, by omega, hEb.trans hx1⟩
    · have hno : (some (⟨b, o, none⟩ : Addr)).isNone = false := rfl
      have hzv : z.natAbs = val l := by rcases hzz with ⟨_, h, _⟩ | ⟨_, h, _⟩ <;> omega
      have Hl := hid hl; have Hd := hid hd; have Hzv := hid hzv
      have Hs0 := hid hs
      clear hl hd hr hzz hs hzv
      go_enter Tryz.func64, Tryz.ntmps64
      go_wp2_with fail
      refine (Hs.out _).mono ?_
      rintro e w1 ⟨rfl, hx1⟩
      have k0 := (hx1.cell (p := ⟨w.heap.size, 0, none⟩) (by simp)).trans (show _ = some (.int .i64 sm) from by simp)
      have k1 := (hx1.cell (p := ⟨w.heap.size, 1, none⟩) (by simp)).trans (show _ = some (.slice (some ⟨b, o, none⟩) n c) from by simp)
      have Hs1 := hid (Hs0.out.ext (hEb.trans hx1))
      go_wp2_with fail
      go_loop [3] (fun i => ∃ k : Nat, k < n ∧ i = .int .i64 k ∧ ∀ t, t < k → l.getD t 0 = 0) (fun i => n - (intOf i).toNat)
      case atStart =>
        refine ⟨0, ?_, rfl, fun t ht => absurd ht (by omega)⟩
        apply Nat.pos_of_ne_zero
        intro h0
        have : l = [] := List.eq_nil_of_length_eq_zero (by rw [Hl.out, h0])
        have h3 := Hzv.out
        rw [this] at h3
        simp [val] at h3
        exact Hz.out h3
      case round =>
        obtain ⟨k, hk, rfl, hall⟩ := hrel
        have Hall := hid hall
        clear hall
        have hck : w1.cell? ⟨b, o + k, none⟩ = some (.int .u64 (l.getD k 0 : Nat)) := by
          rcases Hs1.out with ⟨h, _⟩ | ⟨b', o', h, _, hc⟩
          · cases h
          · simp only [Option.some.injEq, Addr.mk.injEq, and_true] at h
            obtain ⟨rfl, rfl⟩ := h
            exact hc k (by rw [Hl.out]; exact hk)
        obtain ⟨x, hx⟩ : ∃ x, l.getD k 0 = x := ⟨_, rfl⟩
        rw [hx] at hck
        have Hx := hid hx
        clear hx
        have ik : (k : Int) < (n : Int) := by omega
        by_cases hx0 : x = 0
        · subst hx0
          have hk1 : k + 1 < n := by
            apply Nat.lt_of_le_of_ne hk
            intro h0
            have : val l = 0 := val_all_zero l (fun t ht => by
              rw [Hl.out] at ht
              by_cases e : t = k
              · rw [e]; exact Hx.out
              · exact Hall.out t (by omega))
            have h3 := Hzv.out
            rw [this] at h3
            exact Hz.out (by omega)
          go_wp2_with fail
          go_round
          case rel => exact ⟨k + 1, hk1, by go_num, fun t ht => by
            by_cases e : t = k
            · rw [e]; exact Hx.out
            · exact Hall.out t (by omega)⟩
          case measure => simp [intOf]; omega
        · have hxB : x < B64 := by
            rw [← Hx.out]
            have hkl : k < l.length := by rw [Hl.out]; exact hk
            rw [List.getD_eq_getElem?_getD, List.getElem?_eq_getElem hkl]
            exact Hd.out _ (List.getElem_mem hkl)
          have hbx : ((x : Int) == 0) = false := by rw [beq_eq_false_iff_ne]; omega
          have htw := tw_ctz x hx0 hxB
          have Htz := hid (fun wx (hb : Bru wx) => Tryz.bits_TrailingZeros64 x (by rw [B64_eq] at hxB; exact hxB) wx (fun _ => hb))
          obtain ⟨t, ht⟩ : ∃ t, Lib.ctz 64 x = t := ⟨_, rfl⟩
          rw [ht] at htw Htz
          have Ht : Hid (Tw z.natAbs (64 * k + t)) := by
            show Tw _ _
            rw [Hzv.out, val_noughts l k (by rw [Hl.out]; exact hk) Hall.out, Hx.out]
            exact tw_words k x _ t htw.1 htw.2
          have htl := htw.2
          clear htw ht hxB hx0
          go_wp2_with fail
          refine (Htz.out _ (bru_ext Hbr.out (hEb.trans hx1))).mono ?_
          rintro e w2 ⟨rfl, rfl⟩
          go_wp2_with fail
          go_ret
          exact ⟨64 * k + t, by go_num, fun _ => Ht.out, fun k => absurd k Hz.out, by omega, hEb.trans hx1⟩

end Go.Proofs.YtdiojbgbeeojkaaGreatDoor

/-
  withoutSign, halve, double.
-/
namespace Go.Proofs.YtdiojbgbeeojkaaGreatDoor
open Go.RowKit

set_option maxHeartbeats 1000000 in
set_option maxRecDepth 100000 in
theorem withoutSign_any (sm : Int) (ao : Option Addr) (n c : Nat) (z : Int) (w : World) (h : IsInt w sm ao n c z) :
    Calls Tryz.prog 63 #[.agg #[.int .i64 sm, .slice ao n c]] w fun e w' => ∃ (s' : Int) (a' : Option Addr) (n' c' : Nat), e = .returned (.agg #[.int .i64 s', .slice a' n' c']) ∧ IsInt w' s' a' n' c' (z.natAbs : Nat) ∧ Ext w w' := by
  have Hsg := hid h.sign.1
  have H := hid h
  clear h
  obtain ⟨b, hb⟩ : ∃ b, decide (sm < 0) = b := ⟨_, rfl⟩
  have hn := negative_any sm (.slice ao n c)
  rw [hb] at hn
  have Hn := hid hn
  have Hb : Hid ((b = true → (z.natAbs : Int) = -z) ∧ (b = false → (z.natAbs : Int) = z)) := by
    have := Hsg.out
    constructor
    · intro h; rw [← hb] at h; have := this.1 (by simpa using h); omega
    · intro h; rw [← hb] at h
      have h2 : ¬ sm < 0 := by simpa using h
      have : ¬ z < 0 := fun k => h2 (this.2 k)
      omega
  clear hn hb
  go_enter Tryz.func63, Tryz.ntmps63
  go_wp2_with fail
  have hbx := boxes1 w (.int .i64 sm) (.slice ao n c)
  generalize (w.alloc (.cells #[.int .i64 sm, .slice ao n c] 24)).alloc (.cells #[.int .i64 0, .slice none 0 0] 24) = W0 at *
  have hB : w.heap.size < W0.heap.size := by have := hbx.size; omega
  refine (Hn.out _).mono ?_
  rintro e we ⟨rfl, hxe⟩
  obtain ⟨y0, y1⟩ := keep2 hxe hB hbx.c0 hbx.c1
  have hrr := hbx.res.ext hxe
  cases b
  · have k0 := hrr.c0; have k1 := hrr.c1; have g0 := hrr.f0; have g1 := hrr.f1
    go_wp2_with fail
    exact bodyPost_ret (v := .agg #[.int .i64 sm, .slice ao n c]) (by simp [results, Tryz.results63, go_sem, k0, k1]) rfl ⟨sm, ao, n, c, rfl, ((H.out.ext (hbx.ext.trans hxe)).cast (Hb.out.2 (by simp)).symm).keep64 (Keep64.set2 (.i64 k0) (.slice k1) (notW_i64 _) _), (hbx.ext.trans hxe).put2 (by omega) _ _⟩
  · go_wp2_with fail
    refine (Neg_any sm ao n c z we (H.out.ext (hbx.ext.trans hxe))).mono ?_
    rintro e wf ⟨s4, a4, n4, c4, rfl, hI4, hxf⟩
    have hr4 := hrr.ext hxf
    have k0 := hr4.c0; have k1 := hr4.c1; have g0 := hr4.f0; have g1 := hr4.f1
    go_wp2_with fail
    exact bodyPost_ret (v := .agg #[.int .i64 s4, .slice a4 n4 c4]) (by simp [results, Tryz.results63, go_sem, k0, k1]) rfl ⟨s4, a4, n4, c4, rfl, (hI4.cast (Hb.out.1 (by simp)).symm).keep64 (Keep64.set2 (.i64 k0) (.slice k1) (notW_i64 _) _), ((hbx.ext.trans hxe).trans hxf).put2 (by omega) _ _⟩

theorem shr_small (s : Int) (k : Nat) (h1 : -9223372036854775808 ≤ s) (h2 : s ≤ 9223372036854775807) : s / 2 ^ min k 64 = s / 2 ^ k := by
  by_cases hk : k ≤ 64
  · rw [Nat.min_eq_left hk]
  · rw [Nat.min_eq_right (by omega)]
    have hp : ∀ j : Nat, 64 ≤ j → s / 2 ^ j = if s < 0 then -1 else 0 := by
      intro j hj
      have h3 : (2 : Int) ^ 64 ≤ 2 ^ j := by
        have : (2 : Nat) ^ 64 ≤ 2 ^ j := Nat.pow_le_pow_right (by decide) hj
        exact_mod_cast this
      generalize (2 : Int) ^ j = p at *
      have h4 : (18446744073709551616 : Int) ≤ p := h3
      by_cases hs : s < 0
      · rw [if_pos hs]
        exact ((Int.ediv_emod_unique (r := s + p) (by omega)).2 ⟨by omega, by omega, by omega⟩).1
      · rw [if_neg hs]
        exact Int.ediv_eq_zero_of_lt (by omega) (by omega)
    rw [hp 64 (by omega), hp k (by omega)]

theorem neg_div (v p : Nat) (hp : 0 < p) : (-(v : Int)) / (p : Int) = if v % p = 0 then -((v / p : Nat) : Int) else -((v / p : Nat) : Int) - 1 := by
  have h := Nat.div_add_mod v p
  have hl := Nat.mod_lt v hp
  have h' : (p : Int) * ((v / p : Nat) : Int) + ((v % p : Nat) : Int) = (v : Int) := by exact_mod_cast h
  split
  · rename_i h0
    rw [h0] at h'
    refine ((Int.ediv_emod_unique (r := 0) (by omega)).2 ⟨?_, by omega, by omega⟩).1
    rw [Int.mul_neg]; omega
  · rename_i h0
    refine ((Int.ediv_emod_unique (r := (p : Int) - ((v % p : Nat) : Int)) (by omega)).2 ⟨?_, by omega, by omega⟩).1
    rw [Int.mul_sub, Int.mul_neg, Int.mul_one]; omega

/-- Where a shift there and back gives the number again, it has lost nothing. -/
theorem shl_back (s : Int) (k : Nat) (h : IntKind.i64.wrap (s * 2 ^ min k 64) / 2 ^ min k 64 = s) : IntKind.i64.wrap (s * 2 ^ min k 64) = s * 2 ^ k := by
  by_cases hk : k ≤ 63
  · have hm : min k 64 = k := Nat.min_eq_left (by omega)
    rw [hm] at h ⊢
    obtain ⟨d, hd⟩ : ∃ d, 64 = k + d := ⟨64 - k, by omega⟩
    have hp : (0 : Int) < 2 ^ k := Int.pow_pos (by decide)
    have e : (18446744073709551616 : Int) = 2 ^ k * 2 ^ d := by
      rw [← Int.pow_add, ← hd]; decide
    have hdv : IntKind.i64.wrap (s * 2 ^ k) % 2 ^ k = 0 := by
      have hw : ∃ t : Int, IntKind.i64.wrap (s * 2 ^ k) = s * 2 ^ k + 18446744073709551616 * t := by
        rw [IntKind.wrap_i64]
        refine ⟨-((s * 2 ^ k + 9223372036854775808) / 18446744073709551616), ?_⟩
        have := Int.mul_ediv_add_emod (s * 2 ^ k + 9223372036854775808) 18446744073709551616
        omega
      obtain ⟨t, ht⟩ := hw
      rw [ht, e, Int.mul_comm s, Int.mul_assoc, ← Int.mul_add]
      exact Int.mul_emod_right _ _
    have h3 := Int.mul_ediv_add_emod (IntKind.i64.wrap (s * 2 ^ k)) (2 ^ k)
    rw [h, hdv, Int.add_zero, Int.mul_comm] at h3
    exact h3.symm
  · have hm : min k 64 = 64 := Nat.min_eq_right (by omega)
    rw [hm] at h ⊢
    have hw : IntKind.i64.wrap (s * 2 ^ 64) = 0 := by
      rw [IntKind.wrap_i64]; omega
    rw [hw] at h ⊢
    have : s = 0 := by rw [← h]; decide
    rw [this, Int.zero_mul]

theorem sgn_pow (b : Bool) (x k : Nat) : sgn b (x * 2 ^ k) = sgn b x * 2 ^ k := by
  cases b <;> simp [sgn, Int.neg_mul]

theorem shiftUp_from {w : World} (k : Nat) (hk : k ≤ 1073741824) : ∀ (wx : World) (a : Option Addr) (l : List Nat) (n c : Nat), Ext w wx → l.length = n → Seg wx a l → Dig l → n ≤ c → n ≤ 1073741824 →
    Calls Tryz.prog 92 #[.slice a n c, .int .u64 k] wx fun e w' => ∃ (a' : Option Addr) (l' : List Nat) (n' c' : Nat), e = .returned (.slice a' n' c') ∧ l'.length = n' ∧ n' ≤ c' ∧ c' ≤ maxLen ∧ Seg w' a' l' ∧ Dig l' ∧ Nrm l' ∧ Hid (val l' = val l * 2 ^ k) ∧ Ext w w' ∧ Ext wx w' :=
  fun wx a l n c hx h1 h2 h3 h4 h5 => (shiftUp_any a l n c k wx h1 h2 h3 h4 h5 hk).mono fun _ _ ⟨v, k1, k2, k3⟩ => by
    obtain ⟨ao', l', c', rfl, h5, h6, h7, h8, h9, h10⟩ := k2
    exact ⟨ao', l', l'.length, c', k1, rfl, h5, h6, h7, h8, h9, h10, hx.trans k3, k3⟩

theorem shiftDown_from {w : World} (k : Nat) (hk : k ≤ 1073741824) : ∀ (wx : World) (a : Option Addr) (l : List Nat) (n c : Nat), Ext w wx → l.length = n → Seg wx a l → Dig l → n ≤ c → c ≤ maxLen → n ≤ 1073741824 →
    Calls Tryz.prog 91 #[.slice a n c, .int .u64 k] wx fun e w' => ∃ (a' : Option Addr) (l' : List Nat) (n' c' : Nat), e = .returned (.slice a' n' c') ∧ l'.length = n' ∧ n' ≤ c' ∧ c' ≤ maxLen ∧ Seg w' a' l' ∧ Dig l' ∧ Nrm l' ∧ Hid (val l' = val l / 2 ^ k) ∧ Ext w w' ∧ Ext wx w' :=
  fun wx a l n c hx h1 h2 h3 h4 h4' h5 => (shiftDown_any a l n c k wx h1 h2 h3 h4 h4' h5 hk).mono fun _ _ ⟨v, k1, k2, k3⟩ => by
    obtain ⟨ao', l', c', rfl, h5, h6, h7, h8, h9, h10⟩ := k2
    exact ⟨ao', l', l'.length, c', k1, rfl, h5, h6, h7, h8, h9, h10, hx.trans k3, k3⟩

set_option maxHeartbeats 1600000 in
set_option maxRecDepth 100000 in
theorem double_any (sm : Int) (ao : Option Addr) (n c : Nat) (z : Int) (k : Nat) (w : World) (h : IsInt w sm ao n c z) (hk : k ≤ 1073741824) (K : Nat) (hK : K ≤ 4194304) (hf : Fit K z) :
    Calls Tryz.prog 67 #[.agg #[.int .i64 sm, .slice ao n c], .int .u64 k] w fun e w' => ∃ (s' : Int) (a' : Option Addr) (n' c' : Nat), e = .returned (.agg #[.int .i64 s', .slice a' n' c']) ∧ IsInt w' s' a' n' c' (z * 2 ^ k) ∧ Ext w w' := by
  have q1 := eql_nil ao n c 0 0
  have H := hid h; have Hf := hid hf
  have hzb := h.bool
  obtain ⟨u, hu⟩ : ∃ u, IntKind.i64.wrap (sm * 2 ^ min k 64) = u := ⟨_, rfl⟩
  obtain ⟨q, hq⟩ : ∃ q, u / 2 ^ min k 64 = q := ⟨_, rfl⟩
  by_cases hsh : ao = none ∧ q = sm
  · obtain ⟨rfl, rfl⟩ := hsh
    obtain ⟨rfl, rfl, rfl, r1, r2⟩ := h.none
    have hfin := shl_back q k (by rw [hu]; exact hq)
    rw [hu] at hfin
    have hur : -9223372036854775808 ≤ u ∧ u ≤ 9223372036854775807 := by rw [← hu, IntKind.wrap_i64]; omega
    rw [← hfin]
    have hno : (none : Option Addr).isNone = true := rfl
    clear h hf hzb hfin H Hf
    go_enter Tryz.func67, Tryz.ntmps67
    go_wp2
    exact bodyPost_ret (v := .agg #[.int .i64 u, .slice none 0 0]) (by simp [results, Tryz.results67, go_sem]) rfl ⟨u, none, 0, 0, rfl, IsInt.small _ _ hur.1 hur.2, (Ext.alloc _ _).then _⟩
  · obtain ⟨bb, hbb⟩ : ∃ bb, decide (sm < 0) = bb := ⟨_, rfl⟩
    have hcase : ao.isNone = false ∨ (ao = none ∧ (q == sm) = false) := by
      rcases ao with _ | a
      · right; refine ⟨rfl, ?_⟩; rw [beq_eq_false_iff_ne]; intro e; exact hsh ⟨rfl, e⟩
      · left; rfl
    rw [hbb] at hzb
    have Hzb := hid hzb; have Hbb := hid hbb
    clear hsh h hf hzb hbb
    rcases hcase with hno | ⟨rfl, hno⟩
    all_goals
      go_enter Tryz.func67, Tryz.ntmps67
      go_wp2_with fail
    · have hbx := boxes1 w (.int .i64 sm) (.slice ao n c)
      generalize (w.alloc (.cells #[.int .i64 sm, .slice ao n c] 24)).alloc (.cells #[.int .i64 0, .slice none 0 0] 24) = W0 at *
      have hB : w.heap.size < W0.heap.size := by have := hbx.size; omega
      have hnn := negative_from (w := W0) sm (.slice ao n c)
      rw [Hbb.out] at hnn
      have Hn := hid hnn; have Hw := hid (words_from (H.out.ext hbx.ext)); have Hsu := hid (shiftUp_from (w := W0) k hk); have Hfw := hid (fromWords_from (w := W0) bb)
      have hE0d : Ext W0 W0.drew := Below.drew (Ext.refl _)
      have c0 := hbx.c0; have c1 := hbx.c1
      clear hnn
      go_region_held3 (fun w' => w'.cell? ⟨w.heap.size, 0, none⟩ = some (.int .i64 sm) ∧ w'.cell? ⟨w.heap.size, 1, none⟩ = some (.slice ao n c))
        (refine ⟨?_, ?_⟩ <;> (repeat (refine cellPut (by omega) ?_)) <;> exact cellKeep (W := W0) (by assumption) (by omega) (by assumption))
        (first | (go_at_call 43; refine (Hn.out _ (by assumption)).mono ?_; rintro e w1 ⟨rfl, he1, hx1⟩) | (go_at_call 71; refine (Hw.out _ (by assumption)).mono ?_; rintro e w2 ⟨a2, l2, n2, c2, rfl, hl2, hn2, hc2, hs2, hd2, hm2, Hv2, he2, hx2⟩; have Hl2 := hid hl2; clear hl2) | (go_at_call 92; refine (Hsu.out _ a2 l2 n2 c2 (by assumption) Hl2.out (hs2.ext (Ext.refl _)) hd2 hn2 (by have := Hf.out.len hm2 Hv2.out; have := Hl2.out; omega)).mono ?_; rintro e w3 ⟨a3, l3, n3, c3, rfl, hl3, hn3, hc3, hs3, hd3, hm3, Hv3, he3, hx3⟩; have Hl3 := hid hl3; clear hl3) | (go_at_call 62; refine (Hfw.out _ a3 l3 n3 c3 (by assumption) Hl3.out hs3 hd3 hn3 hc3).mono ?_; rintro e w4 ⟨s4, a4, n4, c4, rfl, hI4, he4, hx4⟩; have hr4 := hbx.res.ext he4; have k0 := hr4.c0; have k1 := hr4.c1; have g0 := hr4.f0; have g1 := hr4.f1))
      go_wp2_with fail
      exact bodyPost_ret (v := .agg #[.int .i64 s4, .slice a4 n4 c4]) (by simp [results, Tryz.results67, go_sem, k0, k1]) rfl ⟨s4, a4, n4, c4, rfl, (hI4.cast (by rw [Hv3.out, Hv2.out, sgn_pow, ← Hzb.out])).keep64 (Keep64.set2 (.i64 k0) (.slice k1) (notW_i64 _) _), (hbx.ext.trans he4).put2 (by omega) _ _⟩
    · have hbx := boxes1 w (.int .i64 sm) (.slice none n c)
      generalize (w.alloc (.cells #[.int .i64 sm, .slice none n c] 24)).alloc (.cells #[.int .i64 0, .slice none 0 0] 24) = W0 at *
      have hB : w.heap.size < W0.heap.size := by have := hbx.size; omega
      have hnn := negative_from (w := W0) sm (.slice none n c)
      rw [Hbb.out] at hnn
      have Hn := hid hnn; have Hw := hid (words_from (H.out.ext hbx.ext)); have Hsu := hid (shiftUp_from (w := W0) k hk); have Hfw := hid (fromWords_from (w := W0) bb)
      have hE0d : Ext W0 W0.drew := Below.drew (Ext.refl _)
      have c0 := hbx.c0; have c1 := hbx.c1
      clear hnn
      go_region_held3 (fun w' => w'.cell? ⟨w.heap.size, 0, none⟩ = some (.int .i64 sm) ∧ w'.cell? ⟨w.heap.size, 1, none⟩ = some (.slice none n c))
        (refine ⟨?_, ?_⟩ <;> (repeat (refine cellPut (by omega) ?_)) <;> exact cellKeep (W := W0) (by assumption) (by omega) (by assumption))
        (first | (go_at_call 43; refine (Hn.out _ (by assumption)).mono ?_; rintro e w1 ⟨rfl, he1, hx1⟩) | (go_at_call 71; refine (Hw.out _ (by assumption)).mono ?_; rintro e w2 ⟨a2, l2, n2, c2, rfl, hl2, hn2, hc2, hs2, hd2, hm2, Hv2, he2, hx2⟩; have Hl2 := hid hl2; clear hl2) | (go_at_call 92; refine (Hsu.out _ a2 l2 n2 c2 (by assumption) Hl2.out (hs2.ext (Ext.refl _)) hd2 hn2 (by have := Hf.out.len hm2 Hv2.out; have := Hl2.out; omega)).mono ?_; rintro e w3 ⟨a3, l3, n3, c3, rfl, hl3, hn3, hc3, hs3, hd3, hm3, Hv3, he3, hx3⟩; have Hl3 := hid hl3; clear hl3) | (go_at_call 62; refine (Hfw.out _ a3 l3 n3 c3 (by assumption) Hl3.out hs3 hd3 hn3 hc3).mono ?_; rintro e w4 ⟨s4, a4, n4, c4, rfl, hI4, he4, hx4⟩; have hr4 := hbx.res.ext he4; have k0 := hr4.c0; have k1 := hr4.c1; have g0 := hr4.f0; have g1 := hr4.f1))
      go_wp2_with fail
      exact bodyPost_ret (v := .agg #[.int .i64 s4, .slice a4 n4 c4]) (by simp [results, Tryz.results67, go_sem, k0, k1]) rfl ⟨s4, a4, n4, c4, rfl, (hI4.cast (by rw [Hv3.out, Hv2.out, sgn_pow, ← Hzb.out])).keep64 (Keep64.set2 (.i64 k0) (.slice k1) (notW_i64 _) _), (hbx.ext.trans he4).put2 (by omega) _ _⟩

end Go.Proofs.YtdiojbgbeeojkaaGreatDoor
