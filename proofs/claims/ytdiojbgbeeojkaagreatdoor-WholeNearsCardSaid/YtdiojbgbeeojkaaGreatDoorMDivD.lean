/-
  divDigit: one digit of a long quotient; what is left stands where the part stood.
-/
import Derived.Test.YtdiojbgbeeojkaaGreatDoorMDivW
import Derived.Deep.RegionHeld3
import Derived.Test.YtdiojbgbeeojkaaGreatDoorMAdd

namespace Go.Proofs.YtdiojbgbeeojkaaGreatDoor
open Go.RowKit

theorem seg_take (L : List Nat) (o n m : Nat) (h : m ≤ n) : (seg L o n).take m = seg L o m := by
  unfold seg; rw [List.take_take, Nat.min_eq_left h]

/-- A row whose word behind the part is set: the part is all that counts. -/
theorem seg_top {L M : List Nat} {o n x : Nat} (hT : Turned L M o n) (hn : o + (n + 1) ≤ L.length) : val (seg (M.set (o + n) x) o (n + 1)) = val (seg M o n) + B64 ^ n * x ∧ Turned L (M.set (o + n) x) o (n + 1) := by
  constructor
  · rw [seg_step hT x (by omega), val_snoc, seg_length M o n (by rw [hT.1]; omega)]
  · exact hT.step x

theorem Turned.trans {L M N : List Nat} {o n : Nat} (h : Turned L M o n) (k : Turned M N o n) : Turned L N o n := ⟨k.1.trans h.1, fun t ht => (k.2 t ht).trans (h.2 t ht)⟩

theorem addBack {P0 P0' r b X carry : Nat} (h : P0' + X * carry = P0 + b) (hb : P0 + b = r + X) (_hr : r < X) (hP : P0' < X) (hc : carry ≤ 1) : carry = 1 ∧ P0' = r := by
  have : carry = 0 ∨ carry = 1 := by omega
  rcases this with rfl | rfl
  · omega
  · exact ⟨rfl, by omega⟩

theorem Only.undrawn {b : Nat} {w w' : World} (h : Only b w.drew w') : Only b w w' := ⟨h.os, h.tape, h.output, h.size, h.block⟩

theorem divDigit_back {L N M' lb : List Nat} {b o n G1 : Nat} {w w5 : World} (hn : o + (n + 1) ≤ L.length) (hr' : Row w5 b M') (hd' : Dig M') (hT5 : Turned L N o (n + 1)) (hT' : Turned N M' o n) (hO : Only b w w5)
    (hv : val (seg M' o n) = val (seg L o (n + 1)) % val lb) (hG1 : G1 = val (seg L o (n + 1)) / val lb) (hG1b : G1 < B64) :
    ∃ (M : List Nat) (q : Nat), Ending.returned (.int .u64 (G1 : Int)) = .returned (.int .u64 q) ∧ q < B64 ∧ Row (w5.setCell ⟨b, o + n, none⟩ (.int .u64 0)) b M ∧ Dig M ∧ Turned L M o (n + 1) ∧ Only b w (w5.setCell ⟨b, o + n, none⟩ (.int .u64 0)) ∧ q = val (seg L o (n + 1)) / val lb ∧ val (seg M o (n + 1)) = val (seg L o (n + 1)) % val lb := by
  have hl : N.length = L.length := hT5.1
  have hst := seg_top (x := 0) hT' (by omega)
  refine ⟨M'.set (o + n) 0, G1, rfl, hG1b, hr'.set _ 0, hd'.set _ _ B64_pos, ?_, hO.setCell _ _, hG1, by rw [hst.1, hv]; omega⟩
  exact hT5.trans hst.2

set_option maxHeartbeats 800000 in
set_option maxRecDepth 100000 in
theorem divDigit_any (b o c : Nat) (ao : Option Addr) (n c2 : Nat) (lb L : List Nat) (w : World) (hm : lb.length = n) (hr : Row w b L) (hs : Seg w ao lb) (hne : ∀ a, ao = some a → a.block ≠ b)
    (hd : Dig L) (hdb : Dig lb) (hn2 : 2 ≤ n) (hn : o + (n + 1) ≤ L.length) (hlen : L.length ≤ 1073741824) (hc : n + 1 ≤ c) (_hcm : c ≤ 1073741824) (hc2 : n ≤ c2) (htop : 9223372036854775808 ≤ lb.getD (n - 1) 0) (hlt : val (seg L o (n + 1)) < B64 * val lb) :
    Calls Tryz.prog 114 #[.slice (some ⟨b, o, none⟩) (n + 1) c, .slice ao n c2] w fun e w' =>
      ∃ (M : List Nat) (q : Nat), e = .returned (.int .u64 q) ∧ q < B64 ∧ Row w' b M ∧ Dig M ∧ Turned L M o (n + 1) ∧ Only b w w' ∧ q = val (seg L o (n + 1)) / val lb ∧ val (seg M o (n + 1)) = val (seg L o (n + 1)) % val lb := by
  have hsl : (seg L o (n + 1)).length = n + 1 := seg_length _ _ _ hn
  have dsl : Dig (seg L o (n + 1)) := (hd.drop o).take (n + 1)
  have hk := knuth_seg hn2 hsl hm dsl hdb htop hlt
  rw [seg_getD _ _ _ _ (by omega), seg_getD _ _ _ _ (by omega), seg_getD _ _ _ _ (by omega)] at hk
  have hb0 : 0 < val lb := by
    apply Nat.pos_of_ne_zero; intro h; rw [h] at hlt; omega
  have hbX : val lb < B64 ^ n := by rw [← hm]; exact val_lt hdb
  have hsplit : val (seg L o (n + 1)) = val (seg L o n) + B64 ^ n * L.getD (o + n) 0 := val_seg_succ L o n (by omega)
  have hs0 := hs
  rcases hs with ⟨_, rfl⟩ | ⟨g, o2, rfl, hg, hcell⟩
  · simp at hm; omega
  have c1 := hr.cell (o + n) (by omega)
  have c2' := hr.cell (o + (n - 1)) (by omega)
  have c3 := hr.cell (o + (n - 2)) (by omega)
  have c4 := hcell (n - 1) (by omega)
  have c5 := hcell (n - 2) (by omega)
  have g1 := hd.getD (o + n); have g2 := hd.getD (o + (n - 1)); have g3 := hd.getD (o + (n - 2)); have g4 := hdb.getD (n - 1); have g5 := hdb.getD (n - 2)
  obtain ⟨pn, hpn⟩ : ∃ x, L.getD (o + n) 0 = x := ⟨_, rfl⟩
  obtain ⟨x2, hx2⟩ : ∃ x, L.getD (o + (n - 1)) 0 = x := ⟨_, rfl⟩
  obtain ⟨x3, hx3⟩ : ∃ x, L.getD (o + (n - 2)) 0 = x := ⟨_, rfl⟩
  obtain ⟨x4, hx4⟩ : ∃ x, lb.getD (n - 1) 0 = x := ⟨_, rfl⟩
  obtain ⟨x5, hx5⟩ : ∃ x, lb.getD (n - 2) 0 = x := ⟨_, rfl⟩
  rw [hpn, hx2, hx3, hx4, hx5] at hk
  rw [hpn] at c1 g1 hsplit
  rw [hx2] at c2' g2
  rw [hx3] at c3 g3
  rw [hx4] at c4 g4 htop
  rw [hx5] at c5 g5
  obtain ⟨G, hG⟩ : ∃ G, gd pn x2 x3 x4 x5 = G := ⟨_, rfl⟩
  have Hgd : Hid (∀ w : World, Calls Tryz.prog 123 #[.int .u64 pn, .int .u64 x2, .int .u64 x3, .int .u64 x4, .int .u64 x5] w fun e w' => e = .returned (.int .u64 (G : Nat)) ∧ ∃ m, w' = w.drewN m) := by
    intro w; rw [← hG]; exact guessDigit_any pn x2 x3 x4 x5 g1 g2 g3 g4 g5 (by omega) w
  rw [hG] at hk
  have Hx4 : Hid (9223372036854775808 ≤ lb.getD (n - 1) 0) := by show _ ≤ _; rw [hx4]; exact htop
  have Hk := hid hk; have Hm := hid hm; have Hsplit := hid hsplit; have Hpn := hid hpn
  have i1 : (2 : Int) ≤ (n : Int) := by omega
  have i2 : (n : Int) ≤ 1073741824 := by omega
  have i3 : (n : Int) + 1 ≤ (c : Int) := by omega
  clear hk hm hsplit hpn hx2 hx3 hx4 hx5 hG hcell hsl dsl hlt hb0 g2 g3 g4 g5 hn2 htop
  go_enter Tryz.func114, Tryz.ntmps114
  go_wp2_with fail
  go_quiet ((go_at_call 123; exact Calls.quiet_of (Hgd.out _)))
  go_wp2_with fail
  refine (takeProduct_n b o c _ n c2 lb L G (w.drewN nq) Hm.out hr hs0 hne hd hdb Hk.out.2.2 (by omega) (by unfold maxLen; omega) (by omega) hc2).mono ?_
  rintro e w3 ⟨M, over, rfl, hov, hr3, hd3, hT3, ho3, Hv⟩
  have hO3 : Only b w w3 := ⟨ho3.os, ho3.tape, ho3.output, ho3.size, ho3.block⟩
  have hcn := hr3.cell (o + n) (by rw [hT3.1]; omega)
  have hfn := hr3.frozen (o + n)
  rw [hT3.2 (o + n) (by omega), Hpn.out] at hcn
  have hP0' : val (seg M o n) < B64 ^ n := by
    have h1 := val_lt (l := seg M o n) ((hd3.drop o).take n)
    rwa [seg_length M o n (by rw [hT3.1]; omega)] at h1
  have hb0 : 0 < val lb := by
    apply Nat.pos_of_ne_zero; intro h
    have := top2 lb n (by omega) Hm.out
    have h5 := Hk.out.1
    rw [h, Nat.div_zero] at h5
    have h6 : 0 < B64 ^ (n - 2) := Nat.pow_pos B64_pos
    rw [h] at this
    have h7 := Hx4.out
    have h8 : 0 < (lb.getD (n - 1) 0 * B64 + lb.getD (n - 2) 0) * B64 ^ (n - 2) := Nat.mul_pos (Nat.add_pos_left (Nat.mul_pos (by omega) B64_pos) _) h6
    omega
  have hov' : over ≤ 18446744073709551615 := by rw [B64_eq] at hov; omega
  have hpn' : pn ≤ 18446744073709551615 := by rw [B64_eq] at g1; omega
  by_cases hq : G = val (seg L o (n + 1)) / val lb
  · have hdr := digit_right (pn := pn) hP0' hbX hb0 (by rw [← Hsplit.out]; exact hq) Hv.out
    have Hq := hid hq
    have Hr : Hid (val (seg M o n) = val (seg L o (n + 1)) % val lb) := by show _ = _; rw [Hsplit.out]; exact hdr.2
    obtain rfl : over = pn := hdr.1
    clear hq hdr hP0' hb0
    go_wp2_with fail
    go_ret
    have hst := seg_top (x := 0) hT3 hn
    exact ⟨M.set (o + n) 0, G, rfl, Hk.out.2.2, hr3.set _ _, hd3.set _ _ B64_pos, hst.2, hO3.setCell _ _, Hq.out, by rw [hst.1, Hr.out]; omega⟩
  · have hq1 : G = val (seg L o (n + 1)) / val lb + 1 := by
      have h1 := Hk.out.1; have h2 := Hk.out.2.1
      exact Nat.le_antisymm h2 (Nat.lt_of_le_of_ne h1 (fun e => hq e.symm))
    have hdo := digit_off (pn := pn) hP0' hbX hb0 (by rw [← Hsplit.out]; exact hq1) Hv.out
    have Hq : Hid (G - 1 = val (seg L o (n + 1)) / val lb) := by show _ = _; rw [hq1, Nat.add_sub_cancel]
    have Hr : Hid (val (seg M o n) + val lb = val (seg L o (n + 1)) % val lb + B64 ^ n) := by show _ = _; rw [Hsplit.out]; exact hdo.2
    have hrX : val (seg L o (n + 1)) % val lb < B64 ^ n := Nat.lt_trans (Nat.mod_lt _ hb0) hbX
    have hpo : over = pn + 1 := hdo.1
    have hG0 : 1 ≤ G := by rw [hq1]; exact Nat.le_add_left _ _
    obtain ⟨m, hm⟩ : ∃ m : Nat, m = 18446744073709551615 := ⟨_, rfl⟩
    have em : IntKind.u64.wrap ((pn : Int) - (over : Int)) = (m : Int) := by rw [IntKind.wrap_u64]; omega
    have ez : IntKind.u64.wrap ((m : Int) + 1) = 0 := by rw [IntKind.wrap_u64]; omega
    obtain ⟨G1, hG1⟩ : ∃ G1, G - 1 = G1 := ⟨_, rfl⟩
    have eG1 : (G : Int) - 1 = (G1 : Int) := by omega
    have hG1b : G1 ≤ 18446744073709551615 := by have := Hk.out.2.2; rw [B64_eq] at this; omega
    have hlt1 : (pn : Int) < (over : Int) := by omega
    have hr4 : Row (w3.setCell ⟨b, o + n, none⟩ (.int .u64 (m : Nat))) b (M.set (o + n) m) := hr3.set _ _
    have hO4 : Only b w (w3.setCell ⟨b, o + n, none⟩ (.int .u64 (m : Nat))) := hO3.setCell _ _
    have HG1 := hid hG1
    have hmB : m < B64 := by rw [B64_eq]; omega
    have HhX := hid hrX
    have hM5 : seg (M.set (o + n) m) o n = seg M o n := seg_set_out _ _ _ _ _ (by omega)
    have hT5 : Turned L (M.set (o + n) m) o (n + 1) := hT3.step m
    have hd5 : Dig (M.set (o + n) m) := hd3.set _ _ hmB
    have Hadd : Hid (∀ wx : World, Row wx b (M.set (o + n) m) → Seg wx (some ⟨g, o2, none⟩) lb → Calls Tryz.prog 116 #[.slice (some ⟨b, o, none⟩) n c, .slice (some ⟨g, o2, none⟩) n c2] wx fun e w' =>
        ∃ M' : List Nat, e = .returned (.int .u64 1) ∧ Row w' b M' ∧ Dig M' ∧ Turned (M.set (o + n) m) M' o n ∧ Only b wx w' ∧ Hid (val (seg M' o n) = val (seg L o (n + 1)) % val lb)) := by
      intro wx hrx hsx
      refine (addInto_n b o n c _ n c2 lb (M.set (o + n) m) wx Hm.out hrx hsx hne hd5 hdb (by rw [List.length_set, hT3.1]; omega) (Nat.le_refl _) (by rw [List.length_set, hT3.1]; unfold maxLen; omega) (by omega) hc2).mono ?_
      rintro e w' ⟨M', carry, rfl, hca, hr', hd', hT', ho', Hv'⟩
      have hl' : val (seg M' o n) < B64 ^ n := by
        have h1 := val_lt (l := seg M' o n) ((hd'.drop o).take n)
        rwa [seg_length M' o n (by rw [hT'.1, List.length_set, hT3.1]; omega)] at h1
      have hv' := Hv'.out
      rw [hM5] at hv'
      obtain ⟨rfl, h2⟩ := addBack hv' Hr.out HhX.out hl' hca
      exact ⟨M', rfl, hr', hd', hT', ho', h2⟩
    clear hq hq1 hdo hP0' hb0 hpo hm hG1 hrX hM5 hd5
    go_wp2_with fail
    have hs4 : Seg (w3.setCell ⟨b, o + n, none⟩ (.int .u64 (m : Nat))) (some ⟨g, o2, none⟩) lb := hs0.only hO4 hne
    have hc4 : (w3.setCell ⟨b, o + n, none⟩ (.int .u64 (m : Nat))).cell? ⟨b, o + n, none⟩ = some (.int .u64 (m : Nat)) := by
      have := hr4.cell (o + n) (by rw [List.length_set, hT3.1]; omega)
      rwa [getD_set_eq _ _ _ (by rw [hT3.1]; omega)] at this
    have hl5 : (M.set (o + n) m).length = L.length := by rw [List.length_set, hT3.1]
    have hg5 : (M.set (o + n) m).getD (o + n) 0 = m := getD_set_eq _ _ _ (by rw [hT3.1]; omega)
    have Hl5 := hid hl5
    have Hg5 := hid hg5
    clear hl5 hg5 hcn hfn hr3 hO3 ho3 hd3 hT3
    generalize w3.setCell ⟨b, o + n, none⟩ (.int .u64 (m : Nat)) = w4 at *
    go_region_with ((go_at_call 116; refine (Hadd.out w4.drew hr4 hs4).mono ?_; rintro e w5 ⟨M', rfl, hr', hd', hT', ho', Hv'⟩; have hc6 := hr'.cell (o + n) (by rw [hT'.1, Hl5.out]; omega); rw [hT'.2 (o + n) (by omega), Hg5.out] at hc6; have hf6 := hr'.frozen (o + n)))
    all_goals
      go_wp2_with fail
      go_ret
      exact divDigit_back hn hr' hd' hT5 hT' (hO4.trans ho'.undrawn) Hv'.out (by rw [← Hq.out, HG1.out]) (by have := Hk.out.2.2; have := HG1.out; omega)

end Go.Proofs.YtdiojbgbeeojkaaGreatDoor
