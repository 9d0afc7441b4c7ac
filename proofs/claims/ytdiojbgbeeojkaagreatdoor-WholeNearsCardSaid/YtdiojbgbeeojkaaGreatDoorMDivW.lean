/-
  Div64 at every dividend; divByWord: words divided by one word.
-/
import Derived.Test.YtdiojbgbeeojkaaGreatDoorMDiv64

namespace Go.Proofs.YtdiojbgbeeojkaaGreatDoor
open Go.RowKit

set_option maxHeartbeats 400000 in
set_option maxRecDepth 100000 in
theorem div64_short (lo y : Nat) (hlo : lo < B64) (_hy : y < B64) (h0 : 0 < y) (w : World) :
    Calls Tryz.prog 112 #[.int .u64 0, .int .u64 lo, .int .u64 y] w fun e w' => ∃ q r : Nat, e = .returned (.tuple #[.int .u64 q, .int .u64 r]) ∧ (∃ n, w' = w.drewN n) ∧ q = lo / y ∧ r = lo % y := by
  obtain ⟨q, hq⟩ : ∃ q, lo / y = q := ⟨_, rfl⟩
  obtain ⟨r, hr⟩ : ∃ r, lo % y = r := ⟨_, rfl⟩
  have eq1 : (lo : Int) / (y : Int) = (q : Int) := by rw [← hq]; exact (Int.natCast_ediv _ _).symm
  have eq2 : (lo : Int) % (y : Int) = (r : Int) := by rw [← hr]; exact (Int.natCast_emod _ _).symm
  have hqb : q ≤ 18446744073709551615 := by
    have := Nat.div_le_self lo y
    rw [B64_eq] at hlo; omega
  have Hq := hid hq
  have Hr := hid hr
  clear hq hr
  have hb2 : ((y : Int) == 0) = false := by rw [beq_eq_false_iff_ne]; omega
  have hb3 : ¬ ((y : Int) ≤ 0) := by omega
  have hb4 : (1 : Int) ≤ (y : Int) := by omega
  have hlo' : lo ≤ 18446744073709551615 := by rw [B64_eq] at hlo; omega
  go_enter Tryz.func112, Tryz.ntmps112
  go_wp2_with fail
  go_quiet (fail)
  go_wp2_with fail
  go_ret2
  exact ⟨q, r, by rw [← eq2]; rfl, ⟨_, rfl⟩, Hq.out.symm, Hr.out.symm⟩

theorem div64_any (hi lo y : Nat) (hlo : lo < B64) (hy : y < B64) (hlt : hi < y) (w : World) :
    Calls Tryz.prog 112 #[.int .u64 hi, .int .u64 lo, .int .u64 y] w fun e w' => ∃ q r : Nat, e = .returned (.tuple #[.int .u64 q, .int .u64 r]) ∧ (∃ n, w' = w.drewN n) ∧ q < B64 ∧ r < y ∧ Hid (hi * B64 + lo = q * y + r) := by
  by_cases h0 : hi = 0
  · subst h0
    refine (div64_short lo y hlo hy (by omega) w).mono ?_
    rintro e w' ⟨_, _, rfl, ⟨n, rfl⟩, rfl, rfl⟩
    refine ⟨lo / y, lo % y, rfl, ⟨n, rfl⟩, Nat.lt_of_le_of_lt (Nat.div_le_self _ _) hlo, Nat.mod_lt _ (by omega), ?_⟩
    show _ = _
    have := Nat.div_add_mod lo y
    rw [Nat.mul_comm (lo / y)]
    omega
  · refine (div64_long hi lo y hlo hy hlt (by omega) w).mono ?_
    rintro e w' ⟨q, r, rfl, rfl, h1, h2, h3⟩
    exact ⟨q, r, rfl, ⟨0, rfl⟩, h1, h2, h3⟩

theorem drop_set_cons (M : List Nat) (j q : Nat) (h : j < M.length) : (M.set j q).drop j = q :: M.drop (j + 1) := by
  rw [List.drop_eq_getElem_cons (by rw [List.length_set]; exact h), List.getElem_set_self, List.drop_set]
  rw [if_pos (by omega)]

theorem drop_cons (l : List Nat) (j : Nat) (h : j < l.length) : l.drop j = l.getD j 0 :: l.drop (j + 1) := by
  rw [List.drop_eq_getElem_cons h, List.getD_eq_getElem?_getD, List.getElem?_eq_getElem h]
  rfl

theorem divWord_step {M la : List Nat} {j y q r rest x : Nat} (hM : j < M.length) (hl : j < la.length) (hx : la.getD j 0 = x) (hinv : val (M.drop (j + 1)) * y + rest = val (la.drop (j + 1))) (hd : rest * B64 + x = q * y + r) :
    val ((M.set j q).drop j) * y + r = val (la.drop j) := by
  rw [drop_set_cons M j q hM, drop_cons la j hl, hx, val, val, ← hinv, Nat.add_mul, Nat.mul_add, Nat.mul_assoc, Nat.mul_comm B64 rest]
  omega

set_option maxHeartbeats 400000 in
set_option maxRecDepth 100000 in
theorem divByWord_any (ao : Option Addr) (la : List Nat) (n c y : Nat) (w : World) (hn : la.length = n) (h1 : Seg w ao la) (d1 : Dig la) (_hc : n ≤ c) (hm : n ≤ 1073741824) (hy : y < B64) (h0 : 0 < y) :
    Calls Tryz.prog 97 #[.slice ao n c, .int .u64 y] w fun e w' => ∃ (v : Value) (r : Nat), e = .returned (.tuple #[v, .int .u64 r]) ∧ Num w' v (val la / y) ∧ r = val la % y ∧ Ext w w' := by
  have Hn : Hid (la.length = n) := hn
  clear hn
  go_enter Tryz.func97, Tryz.ntmps97
  go_wp2_with (at_make; refine wpList_make_row _ rfl _ _ rfl _ _ _ _ n rfl rfl (by omega) (by omega) (by omega) ?_; intro w1 hr1 he1 hz1)
  go_loopw [7, 8] (fun rv i wr => ∃ (k rest : Nat) (M : List Nat), k ≤ n ∧ i = .int .i64 ((k : Int) - 1) ∧ rv = .int .u64 rest ∧ rest < y ∧ Row wr w.heap.size M ∧ Dig M ∧ M.length = n ∧ Below w.heap.size w wr ∧ val (M.drop k) * y + rest = val (la.drop k))
    (fun _ i _ => (intOf i + 1).toNat)
  case atStart => exact ⟨n, 0, _, Nat.le_refl _, rfl, rfl, h0, hr1, Dig.replicate _, by simp, he1, by
    rw [List.drop_of_length_le (by simp), List.drop_of_length_le (by rw [Hn.out]; exact Nat.le_refl _)]; simp [val]⟩
  case round =>
    obtain ⟨k, rest, M, hk, rfl, rfl, hrest, hrM, hdM, hML, hB, hinv⟩ := hrel
    have HML := hid hML
    have Hinv := hid hinv
    clear hML hinv
    by_cases hp : 0 < k
    · obtain ⟨j, rfl⟩ : ∃ j, k = j + 1 := ⟨k - 1, by omega⟩
      rcases h1.ext hB with ⟨_, rfl⟩ | ⟨g, o, rfl, hg, hcell⟩
      · have := Hn.out; simp at this; omega
      have hcl := hcell j (by rw [Hn.out]; omega)
      have hdig := d1.getD j
      obtain ⟨x, hx⟩ : ∃ d, la.getD j 0 = d := ⟨_, rfl⟩
      rw [hx] at hcl hdig
      have Hx := hid hx
      clear hx hcell
      have ej : ((j + 1 : Nat) : Int) - 1 = (j : Int) := by omega
      rw [ej]
      clear ej
      go_wp2_with fail
      refine (div64_any rest x y hdig hy hrest _).mono ?_
      rintro e w2 ⟨q, r, rfl, ⟨nd, rfl⟩, hq, hr, Hd⟩
      have hcj := hrM.cell j (by rw [HML.out]; omega)
      have hfj := hrM.frozen j
      go_wp2
      have hstep := divWord_step (by rw [HML.out]; omega) (by rw [Hn.out]; omega) Hx.out Hinv.out Hd.out
      go_roundw
      case rel => exact ⟨j, r, M.set j q, by omega, by go_num, rfl, hr, Row.set (w := wr.drewN nd) hrM j q, hdM.set _ _ hq, by rw [List.length_set]; exact HML.out, Below.setCell (below_drewN hB nd) (Nat.le_refl _) _, hstep⟩
      case measure => simp [intOf]
    · obtain rfl : k = 0 := by omega
      have hs3 := hrM.segAll
      have hv := Hinv.out
      rw [List.drop_zero, List.drop_zero] at hv
      have hdiv : val la / y = val M ∧ val la % y = rest := by
        rw [← hv, Nat.mul_comm]
        exact ⟨by rw [Nat.mul_add_div h0, Nat.div_eq_of_lt hrest, Nat.add_zero], by rw [Nat.mul_add_mod, Nat.mod_eq_of_lt hrest]⟩
      have Hdiv := hid hdiv
      clear hv hdiv
      go_wp2_with fail
      refine (trim_n _ M _ _ _ HML.out (Nat.le_refl _) (by unfold maxLen; omega) hs3).mono ?_
      rintro e w4 ⟨rfl, rfl⟩
      go_wp2_with fail
      go_ret2
      exact ⟨_, _, rfl, (num_trim hs3 hdM (by rw [HML.out]; unfold maxLen; omega)).cast Hdiv.out.1.symm, Hdiv.out.2.symm, hB⟩

end Go.Proofs.YtdiojbgbeeojkaaGreatDoor

/-
  guessDigit: three words by two.
-/
namespace Go.Proofs.YtdiojbgbeeojkaaGreatDoor
open Go.RowKit

/-- What guessDigit answers. -/
def gd (high mid low b1 b2 : Nat) : Nat := if b1 ≤ high then 18446744073709551615 else ((high * B64 + mid) * B64 + low) / (b1 * B64 + b2)

theorem lex_cmp {over under rest low m : Nat} (h : under + B64 * over = m) (hu : under < B64) (hl : low < B64) : (m ≤ B64 * rest + low) ↔ (over < rest ∨ (over = rest ∧ under ≤ low)) := by
  subst h
  constructor
  · intro h
    rcases Nat.lt_trichotomy over rest with h1 | h1 | h1
    · exact Or.inl h1
    · subst h1; exact Or.inr ⟨rfl, by omega⟩
    · have : B64 * (rest + 1) ≤ B64 * over := Nat.mul_le_mul_left _ h1
      rw [Nat.mul_add] at this
      omega
  · rintro (h1 | ⟨rfl, h1⟩)
    · have : B64 * (over + 1) ≤ B64 * rest := Nat.mul_le_mul_left _ h1
      rw [Nat.mul_add] at this
      omega
    · omega

theorem guess_break64 {u u1 v1 v0 q r : Nat} (g : Guess B64 u u1 v1 v0 (q - 1) (r + v1)) (hv1 : 0 < v1) (hv0 : v0 < B64) (hq : q ≤ B64) (hr : B64 ≤ r + v1) : q - 1 = (u * B64 + u1) / (v1 * B64 + v0) := by
  refine g.done (Nat.add_pos_left (Nat.mul_pos hv1 B64_pos) _) ?_
  have h1 : (q - 1) * v0 ≤ B64 * B64 := Nat.mul_le_mul (by omega) (by omega)
  have h2 : B64 * B64 ≤ B64 * (r + v1) := Nat.mul_le_mul_left _ hr
  omega

set_option maxHeartbeats 400000 in
set_option maxRecDepth 100000 in
theorem guessDigit_any (high mid low b1 b2 : Nat) (_h1 : high < B64) (h2 : mid < B64) (h3 : low < B64) (h4 : b1 < B64) (h5 : b2 < B64) (hb : 0 < b1) (w : World) :
    Calls Tryz.prog 123 #[.int .u64 high, .int .u64 mid, .int .u64 low, .int .u64 b1, .int .u64 b2] w fun e w' => e = .returned (.int .u64 (gd high mid low b1 b2 : Nat)) ∧ ∃ m, w' = w.drewN m := by
  by_cases hge : b1 ≤ high
  · have He : Hid (gd high mid low b1 b2 = 18446744073709551615) := by show _ = _; unfold gd; rw [if_pos hge]
    go_enter Tryz.func123, Tryz.ntmps123
    go_wp2_with fail
    go_ret
    exact ⟨by rw [He.out]; rfl, 0, rfl⟩
  · have He : Hid (gd high mid low b1 b2 = ((high * B64 + mid) * B64 + low) / (b1 * B64 + b2)) := by show _ = _; unfold gd; rw [if_neg hge]
    have hlt : high < b1 := by omega
    clear hge
    go_enter Tryz.func123, Tryz.ntmps123
    go_wp2_with fail
    refine (div64_any high mid b1 h2 h4 hlt _).mono ?_
    rintro e w2 ⟨g0, r0, rfl, ⟨nd, hw2⟩, hg0, hr0, Hd⟩
    have Hw2 := hid hw2
    clear hw2
    have hg : Guess B64 (high * B64 + mid) low b1 b2 g0 r0 := by
      have hh := Guess.start (b := B64) (u := high * B64 + mid) (u1 := low) (v1 := b1) (v0 := b2) h3 hb
      have e1 : (high * B64 + mid) / b1 = g0 := by rw [Hd.out, Nat.mul_comm, Nat.mul_add_div hb, Nat.div_eq_of_lt hr0, Nat.add_zero]
      have e2 : high * B64 + mid - g0 * b1 = r0 := by have := Hd.out; omega
      rw [e1, e2] at hh
      exact hh
    have Hg0 := hid hg
    have HU : Hid (high * B64 + mid < b1 * B64 + b2) := by
      show _ < _
      have := Nat.mul_le_mul_right B64 (show high + 1 ≤ b1 from hlt)
      rw [Nat.add_mul] at this
      omega
    clear hg
    go_wp2_with fail
    go_loop [11, 12] (fun gv rv => ∃ g r : Nat, gv = .int .u64 g ∧ rv = .int .u64 r ∧ g < B64 ∧ r < B64 ∧ Guess B64 (high * B64 + mid) low b1 b2 g r) (fun gv _ => (intOf gv).toNat)
    case atStart => exact ⟨g0, r0, rfl, rfl, hg0, Nat.lt_trans hr0 h4, Hg0.out⟩
    case round =>
      clear Hg0 hg0 hr0 Hd
      obtain ⟨g, r, rfl, rfl, hgB, hrB, hg⟩ := hrel
      have Hg := hid hg
      clear hg
      go_wp2_with fail
      refine (mul64_hl g b2 hgB h5 _).mono ?_
      rintro e w3 ⟨over, under, rfl, rfl, hov, hun, Hp⟩
      have hlex := lex_cmp (rest := r) Hp.out (by rw [B64_eq]; omega) h3
      have hrB' : r ≤ 18446744073709551615 := by rw [B64_eq] at hrB; omega
      have hb1' : b1 ≤ 18446744073709551615 := by rw [B64_eq] at h4; omega
      by_cases hsm : g * b2 ≤ B64 * r + low
      · have hfin : g = ((high * B64 + mid) * B64 + low) / (b1 * B64 + b2) := Hg.out.done (Nat.add_pos_left (Nat.mul_pos hb B64_pos) _) hsm
        have Hfin : Hid (g = gd high mid low b1 b2) := by show _ = _; rw [He.out]; exact hfin
        have hcase := hlex.1 hsm
        clear hfin hlex hsm
        rcases hcase with hlt2 | ⟨rfl, hle2⟩
        · go_wp2_with fail
          go_ret
          exact ⟨by rw [← Hfin.out]; rfl, nd, Hw2.out⟩
        · go_wp2_with fail
          go_ret
          exact ⟨by rw [← Hfin.out]; rfl, nd, Hw2.out⟩
      · have hbig : B64 * r + low < g * b2 := by omega
        obtain ⟨hgp, hg2⟩ := Hg.out.down HU.out h3 (Or.inr hbig)
        have hncase : ¬ (over < r) ∧ (over = r → low < under) := by
          constructor
          · intro h; exact hsm (hlex.2 (Or.inl h))
          · intro h; apply Nat.lt_of_not_le; intro h'; exact hsm (hlex.2 (Or.inr ⟨h, h'⟩))
        obtain ⟨hn1, hn2⟩ := hncase
        obtain ⟨G, hG⟩ : ∃ G, g - 1 = G := ⟨_, rfl⟩
        have eG : (g : Int) - 1 = (G : Int) := by omega
        have hGB : G < B64 := by omega
        have hGn : G ≤ 18446744073709551615 := by rw [B64_eq] at hGB; omega
        have hgp1 : (1 : Int) ≤ (g : Int) := by omega
        by_cases hwrap : r + b1 < B64
        · have hwrap' : (r : Int) + (b1 : Int) ≤ 18446744073709551615 := by rw [B64_eq] at hwrap; omega
          have HG2 : Hid (Guess B64 (high * B64 + mid) low b1 b2 G (r + b1)) := by rw [← hG]; exact hg2
          clear hlex hsm hbig hg2 hG
          by_cases heq : over = r
          · have hlt2 := hn2 heq
            subst heq
            clear hn2
            go_wp2_with fail
            go_round
            case rel => exact ⟨G, over + b1, rfl, by go_num, hGB, hwrap, HG2.out⟩
            case measure => simp [intOf]; omega
          · have hbeq : ((over : Int) == (r : Int)) = false := by rw [beq_eq_false_iff_ne]; omega
            clear hn2 heq
            go_wp2_with fail
            go_round
            case rel => exact ⟨G, r + b1, rfl, by go_num, hGB, hwrap, HG2.out⟩
            case measure => simp [intOf]; omega
        · have hfin : G = ((high * B64 + mid) * B64 + low) / (b1 * B64 + b2) := by rw [← hG]; exact guess_break64 hg2 hb h5 (by omega) (by omega)
          have Hfin : Hid (G = gd high mid low b1 b2) := by show _ = _; rw [He.out]; exact hfin
          obtain ⟨t, ht⟩ : ∃ t, r + b1 = B64 + t := ⟨r + b1 - B64, by omega⟩
          have et : IntKind.u64.wrap ((r : Int) + (b1 : Int)) = (t : Int) := by rw [IntKind.wrap_u64]; rw [B64_eq] at ht hrB; omega
          have htb : t < b1 := by omega
          clear hlex hsm hbig hg2 hG hfin hwrap ht
          by_cases heq : over = r
          · have hlt2 := hn2 heq
            subst heq
            clear hn2
            go_wp2_with fail
            go_ret
            exact ⟨by rw [← Hfin.out]; rfl, nd, Hw2.out⟩
          · have hbeq : ((over : Int) == (r : Int)) = false := by rw [beq_eq_false_iff_ne]; omega
            clear hn2 heq
            go_wp2_with fail
            go_ret
            exact ⟨by rw [← Hfin.out]; rfl, nd, Hw2.out⟩

end Go.Proofs.YtdiojbgbeeojkaaGreatDoor

/-
  A digit of a long quotient: the guess by the highest words is right or too great by one; what is left in either case. Plain numbers.
-/
namespace Go.Proofs.YtdiojbgbeeojkaaGreatDoor
open Go.RowKit

theorem knuth {high mid low b1 b2 W t b' P b : Nat} (hW : 0 < W) (ht : t < W) (hb' : b' < W) (h2 : mid < B64) (h3 : low < B64) (hb2 : b2 < B64) (hb1 : 9223372036854775808 ≤ b1)
    (hP : P = ((high * B64 + mid) * B64 + low) * W + t) (hb : b = (b1 * B64 + b2) * W + b') (hlt : P < B64 * b) :
    P / b ≤ gd high mid low b1 b2 ∧ gd high mid low b1 b2 ≤ P / b + 1 ∧ gd high mid low b1 b2 < B64 := by
  obtain ⟨T, hT⟩ : ∃ T, T = (high * B64 + mid) * B64 + low := ⟨_, rfl⟩
  obtain ⟨V, hV⟩ : ∃ V, V = b1 * B64 + b2 := ⟨_, rfl⟩
  rw [← hT] at hP
  rw [← hV] at hb
  have hV0 : 0 < V := by
    have : 0 < b1 * B64 := Nat.mul_pos (by omega) B64_pos
    omega
  have hb0 : 0 < b := by
    have : 0 < V * W := Nat.mul_pos hV0 hW
    omega
  have hq1 : P / b < B64 := by rw [Nat.div_lt_iff_lt_mul hb0]; exact hlt
  have hq2 : P / b ≤ T / V := by
    rw [Nat.le_div_iff_mul_le hV0]
    have h4 := Nat.div_mul_le_self P b
    have h5 : P / b * (V * W) ≤ P / b * b := Nat.mul_le_mul_left _ (by omega)
    rw [← Nat.mul_assoc] at h5
    have h6 : P / b * V * W < (T + 1) * W := by rw [Nat.add_mul]; omega
    exact Nat.le_of_lt_succ (Nat.lt_of_mul_lt_mul_right h6)
  have hTP : T * W ≤ P := by omega
  have hbW : b ≤ (V + 1) * W := by rw [Nat.add_mul]; omega
  unfold gd
  by_cases hge : b1 ≤ high
  · rw [if_pos hge]
    refine ⟨by rw [B64_eq] at hq1; omega, ?_, by rw [B64_eq]; omega⟩
    have hk : 18446744073709551614 ≤ P / b := by
      rw [Nat.le_div_iff_mul_le hb0]
      have h4 : V + 1 ≤ (b1 + 1) * B64 := by rw [hV, Nat.add_mul]; omega
      have h5 : 18446744073709551614 * b ≤ 18446744073709551614 * ((b1 + 1) * B64 * W) := Nat.mul_le_mul_left _ (Nat.le_trans hbW (Nat.mul_le_mul_right _ h4))
      have h6 : 18446744073709551614 * (b1 + 1) ≤ b1 * B64 := by rw [B64_eq]; omega
      have h7 : 18446744073709551614 * ((b1 + 1) * B64 * W) = 18446744073709551614 * (b1 + 1) * (B64 * W) := by
        generalize B64 = x
        simp only [Nat.mul_assoc]
      have h8 : b1 * B64 * (B64 * W) ≤ T * W := by
        have h9 : b1 * B64 ≤ high * B64 + mid := Nat.le_trans (Nat.mul_le_mul_right _ hge) (Nat.le_add_right _ _)
        have h10 : b1 * B64 * B64 ≤ T := by rw [hT]; exact Nat.le_trans (Nat.mul_le_mul_right _ h9) (Nat.le_add_right _ _)
        rw [← Nat.mul_assoc]
        exact Nat.mul_le_mul_right _ h10
      have h11 : 18446744073709551614 * (b1 + 1) * (B64 * W) ≤ b1 * B64 * (B64 * W) := Nat.mul_le_mul_right _ h6
      rw [h7] at h5
      exact Nat.le_trans h5 (Nat.le_trans h11 (Nat.le_trans h8 hTP))
    omega
  · rw [if_neg hge, ← hT, ← hV]
    have hTV : T / V < B64 := by
      rw [Nat.div_lt_iff_lt_mul hV0]
      have h4 : (high * B64 + mid) + 1 ≤ b1 * B64 := by
        have := Nat.mul_le_mul_right B64 (show high + 1 ≤ b1 by omega)
        rw [Nat.add_mul] at this
        omega
      have h5 := Nat.mul_le_mul_right B64 h4
      rw [Nat.add_mul] at h5
      have h6 : b1 * B64 * B64 ≤ B64 * V := by rw [hV, Nat.mul_comm B64]; exact Nat.mul_le_mul_right _ (Nat.le_add_right _ _)
      omega
    refine ⟨hq2, ?_, hTV⟩
    have h7 := Nat.div_mul_le_self T V
    generalize T / V = g at *
    have h4 : g - 1 ≤ P / b := by
      rw [Nat.le_div_iff_mul_le hb0]
      have h5 : (g - 1) * b ≤ (g - 1) * ((V + 1) * W) := Nat.mul_le_mul_left _ hbW
      have h6 : (g - 1) * (V + 1) ≤ T := by
        cases g with
        | zero => simp
        | succ k =>
          rw [Nat.add_sub_cancel, Nat.mul_add]
          rw [Nat.add_mul, Nat.one_mul] at h7
          have h8 : B64 ≤ V := by
            rw [hV]
            have := Nat.mul_le_mul_right B64 (show 1 ≤ b1 by omega)
            omega
          omega
      rw [← Nat.mul_assoc] at h5
      exact Nat.le_trans h5 (Nat.le_trans (Nat.mul_le_mul_right _ h6) hTP)
    exact Nat.le_add_of_sub_le h4

/-- The guess is right. -/
theorem digit_right {P0 P0' pn over g b X : Nat} (hP0' : P0' < X) (hbX : b < X) (hb0 : 0 < b) (hg : g = (P0 + X * pn) / b) (hv : P0' + b * g = P0 + X * over) : over = pn ∧ P0' = (P0 + X * pn) % b := by
  have h1 := Nat.div_add_mod (P0 + X * pn) b
  have h2 := Nat.mod_lt (P0 + X * pn) hb0
  rw [← hg] at h1
  generalize (P0 + X * pn) % b = r at *
  generalize b * g = bg at *
  rcases Nat.lt_trichotomy over pn with h | h | h
  · have := Nat.mul_le_mul_left X (show over + 1 ≤ pn from h)
    rw [Nat.mul_add] at this
    omega
  · subst h; exact ⟨rfl, by omega⟩
  · have := Nat.mul_le_mul_left X (show pn + 1 ≤ over from h)
    rw [Nat.mul_add] at this
    omega

/-- The guess is too great by one. -/
theorem digit_off {P0 P0' pn over g b X : Nat} (hP0' : P0' < X) (hbX : b < X) (hb0 : 0 < b) (hg : g = (P0 + X * pn) / b + 1) (hv : P0' + b * g = P0 + X * over) : over = pn + 1 ∧ P0' + b = (P0 + X * pn) % b + X := by
  have h1 := Nat.div_add_mod (P0 + X * pn) b
  have h2 := Nat.mod_lt (P0 + X * pn) hb0
  rw [hg, Nat.mul_add, Nat.mul_one] at hv
  generalize (P0 + X * pn) % b = r at *
  generalize b * ((P0 + X * pn) / b) = bg at *
  rcases Nat.lt_trichotomy over (pn + 1) with h | h | h
  · have := Nat.mul_le_mul_left X (show over ≤ pn by omega)
    omega
  · subst h
    rw [Nat.mul_add] at hv
    exact ⟨rfl, by omega⟩
  · have := Nat.mul_le_mul_left X (show pn + 2 ≤ over from h)
    rw [Nat.mul_add] at this
    omega

/-- The three highest words of n + 1. -/
theorem top3 (l : List Nat) (n : Nat) (hn : 2 ≤ n) (hl : l.length = n + 1) : val l = ((l.getD n 0 * B64 + l.getD (n - 1) 0) * B64 + l.getD (n - 2) 0) * B64 ^ (n - 2) + val (l.take (n - 2)) := by
  obtain ⟨m, rfl⟩ : ∃ m, n = m + 2 := ⟨n - 2, by omega⟩
  have e0 : l.take (m + 2 + 1) = l := List.take_of_length_le (by omega)
  have e1 := val_take_succ l (m + 2) (by omega)
  have e2 := val_take_succ l (m + 1) (by omega)
  have e3 := val_take_succ l m (by omega)
  have q1 : B64 ^ (m + 1) = B64 ^ m * B64 := Nat.pow_succ _ _
  have q2 : B64 ^ (m + 2) = B64 ^ m * B64 * B64 := by rw [Nat.pow_succ, q1]
  rw [e0, e2, e3, q1, q2] at e1
  rw [e1, show m + 2 - 1 = m + 1 from rfl, show m + 2 - 2 = m from rfl]
  generalize val (l.take m) = a
  generalize l.getD m 0 = x
  generalize l.getD (m + 1) 0 = y
  generalize l.getD (m + 2) 0 = z
  generalize B64 ^ m = X
  generalize B64 = c
  simp only [Nat.add_mul, Nat.mul_assoc]
  have p1 : X * (c * y) = y * (c * X) := by ac_rfl
  have p2 : X * (c * (c * z)) = z * (c * (c * X)) := by ac_rfl
  have p3 : X * x = x * X := Nat.mul_comm _ _
  omega

/-- The two highest words of n. -/
theorem top2 (l : List Nat) (n : Nat) (hn : 2 ≤ n) (hl : l.length = n) : val l = (l.getD (n - 1) 0 * B64 + l.getD (n - 2) 0) * B64 ^ (n - 2) + val (l.take (n - 2)) := by
  obtain ⟨m, rfl⟩ : ∃ m, n = m + 2 := ⟨n - 2, by omega⟩
  have e0 : l.take (m + 1 + 1) = l := List.take_of_length_le (by omega)
  have e2 := val_take_succ l (m + 1) (by omega)
  have e3 := val_take_succ l m (by omega)
  rw [e0, e3, Nat.pow_succ] at e2
  rw [e2, show m + 2 - 1 = m + 1 from rfl, show m + 2 - 2 = m from rfl]
  generalize val (l.take m) = a
  generalize l.getD m 0 = x
  generalize l.getD (m + 1) 0 = y
  generalize B64 ^ m = X
  generalize B64 = c
  simp only [Nat.add_mul, Nat.mul_assoc]
  have p1 : X * (c * y) = y * (c * X) := by ac_rfl
  have p3 : X * x = x * X := Nat.mul_comm _ _
  omega

/-- The guess at a part of a row. -/
theorem knuth_seg {l lb : List Nat} {n : Nat} (hn : 2 ≤ n) (hl : l.length = n + 1) (hlb : lb.length = n) (dl : Dig l) (db : Dig lb) (htop : 9223372036854775808 ≤ lb.getD (n - 1) 0) (hlt : val l < B64 * val lb) :
    val l / val lb ≤ gd (l.getD n 0) (l.getD (n - 1) 0) (l.getD (n - 2) 0) (lb.getD (n - 1) 0) (lb.getD (n - 2) 0) ∧
    gd (l.getD n 0) (l.getD (n - 1) 0) (l.getD (n - 2) 0) (lb.getD (n - 1) 0) (lb.getD (n - 2) 0) ≤ val l / val lb + 1 ∧
    gd (l.getD n 0) (l.getD (n - 1) 0) (l.getD (n - 2) 0) (lb.getD (n - 1) 0) (lb.getD (n - 2) 0) < B64 := by
  have h1 := val_lt (dl.take (n - 2))
  have h2 := val_lt (db.take (n - 2))
  rw [List.length_take, Nat.min_eq_left (by omega)] at h1 h2
  exact knuth (Nat.pow_pos B64_pos) h1 h2 (dl.getD _) (dl.getD _) (db.getD _) htop (top3 l n hn hl) (top2 lb n hn hlb) hlt

end Go.Proofs.YtdiojbgbeeojkaaGreatDoor
