/-
  The reference reads fractions: word below a bar.
-/
import Derived.Test.YtdiojbgbeeojkaaGreatDoorMZH
import Derived.Test.YtdiojbgbeeojkaaGreatDoorMFqD
import Derived.Test.YtdiojbgbeeojkaaGreatDoorMFpB
import Derived.Test.YtdiojbgbeeojkaaGreatDoorMFzC

namespace Go.Proofs.YtdiojbgbeeojkaaGreatDoor
open Go.RowKit

set_option maxHeartbeats 1000000 in
set_option maxRecDepth 100000 in
theorem word_ff (s : ByteArray) (w : World) (hs : s.size ≤ 9223372036854775807) :
    Calls Tryz.prog 37 #[.string s, .bool false, .bool false] w fun e w' => e = .returned (.tuple #[.int .i64 (spos (bs s) : Nat), .bool (decide (0 < spos (bs s)))]) ∧ w = w' := by
  by_cases h0 : s.size = 0
  · have e := bs_nil s h0
    subst e
    have hsc : spos (bs ⟨#[]⟩) = 0 := by decide
    rw [hsc]
    clear hsc
    go_enter Tryz.func37, Tryz.ntmps37
    go_wp2
    go_loop [9] (fun i => i = .int .i64 0) (fun _ => 0)
    case atStart => rfl
    case round =>
      subst hrel
      go_wp2
      go_ret2
      exact ⟨rfl, rfl⟩
  · have hp : 0 < s.size := by omega
    have ip : (0 : Int) < (s.size : Int) := by omega
    have hat := bs_at s 0 hp
    have hlen := bs_length s
    by_cases h48 : (bs s).getD 0 0 = 48
    · have hb : ((s[0].toNat : Int) == 48) = true := by rw [beq_iff_eq, hat]; omega
      have hsc : spos (bs s) = 0 := by unfold spos; rw [if_pos (Or.inr h48)]
      rw [hsc]
      clear hat h48 hsc hlen
      go_enter Tryz.func37, Tryz.ntmps37
      go_wp2
      go_ret2
      exact ⟨rfl, rfl⟩
    · have hb : ((s[0].toNat : Int) == 48) = false := by rw [beq_eq_false_iff_ne, hat]; omega
      have Hscan : Hid (∀ k, k ≤ s.size → (∀ t, t < k → isD ((bs s).getD t 0) = true) → (k = (bs s).length ∨ isD ((bs s).getD k 0) = false) → spos (bs s) = k) := by
        intro k q2 q3 q4
        have := dcount_of (bs s) k (by rw [hlen]; exact q2) q3 q4
        unfold spos
        rw [if_neg (by rw [hlen]; exact fun h => h.elim (fun e => h0 e) (fun e => h48 e)), this]
      clear hat h48 hlen
      go_enter Tryz.func37, Tryz.ntmps37
      go_wp2
      go_loop [9] (fun i => ∃ k : Nat, k ≤ s.size ∧ i = .int .i64 k ∧ ∀ t, t < k → isD ((bs s).getD t 0) = true) (fun i => s.size - (intOf i).toNat)
      case atStart => exact ⟨0, Nat.zero_le _, rfl, fun t h1 => by omega⟩
      case round =>
        obtain ⟨k, hk, rfl, hall⟩ := hrel
        have Hall := Lib.hid hall
        clear hall
        by_cases hlt : k < s.size
        · have hat := bs_at s k hlt
          have ik : (k : Int) < (s.size : Int) := by omega
          by_cases hdg : isD ((bs s).getD k 0) = true
          · have hr : (48 : Int) ≤ (s[k].toNat : Int) ∧ (s[k].toNat : Int) ≤ 57 := by
              simp only [isD, decide_eq_true_eq] at hdg; rw [hat]; omega
            obtain ⟨g1, g2⟩ := hr
            have Hdg := Lib.hid hdg
            clear hat hdg
            go_wp2
            have hall := Hall.out
            go_round
            case rel => exact ⟨k + 1, by omega, by go_num, fun t h2 => by
              by_cases e : t = k
              · rw [e]; exact Hdg.out
              · exact hall t (by omega)⟩
            case measure => simp [intOf]; omega
          · have Hsc := Lib.hid (Hscan.out k hk Hall.out (Or.inr (by simpa using hdg)))
            by_cases hlo : 48 ≤ s[k].toNat
            · have g1 : (48 : Int) ≤ (s[k].toNat : Int) := by omega
              have g2 : ¬ (s[k].toNat : Int) ≤ 57 := by
                simp only [isD, decide_eq_true_eq] at hdg; rw [hat] at hlo ⊢; omega
              clear hat hdg hlo
              go_wp2
              go_ret2
              refine ⟨?_, rfl⟩
              rw [Hsc.out]
              simp
            · have g1 : ¬ (48 : Int) ≤ (s[k].toNat : Int) := by omega
              clear hat hdg hlo
              go_wp2
              go_ret2
              refine ⟨?_, rfl⟩
              rw [Hsc.out]
              simp
        · obtain rfl : k = s.size := by omega
          have Hsc := Lib.hid (Hscan.out _ hk Hall.out (Or.inl (bs_length s).symm))
          have ik : ¬ (s.size : Int) < (s.size : Int) := by omega
          go_wp2
          go_ret2
          refine ⟨?_, rfl⟩
          rw [Hsc.out]
          simp
          exact hp

end Go.Proofs.YtdiojbgbeeojkaaGreatDoor

/-
  The reference reads fractions: FParse.
-/
namespace Go.Proofs.YtdiojbgbeeojkaaGreatDoor
open Go.RowKit

/-- As many places as a number has that is read. -/
def digN : Nat := 250
theorem dig_room (n m : Nat) (h : n ≤ 4 * m) : 10 ^ n ≤ 10000 ^ m := by
  rw [show (10000 : Nat) = 10 ^ 4 from rfl, ← Nat.pow_mul]
  exact Nat.pow_le_pow_right (by decide) h
theorem dig_lim {z : Int} (h : z.natAbs < Lim) : z.natAbs < 10000 ^ digN := Nat.lt_of_lt_of_le h (by unfold Lim; exact dig_room limN digN (by decide))

def FRetG (w : World) (P Q C A : Int) (N : Nat) (e : Ending) (w' : World) : Prop :=
  ∃ (b : Bool) (a : Option Addr) (n c : Nat) (b' : Bool) (a' : Option Addr) (n' c' : Nat), e = .returned (.tuple #[.agg #[.bool b, .slice a n c, .bool b', .slice a' n' c'], .agg #[.int .i64 C, .int .i64 A]]) ∧ IsZ w' b a n c P ∧ IsZ w' b' a' n' c' Q ∧ n ≤ N ∧ n' ≤ N ∧ Ext w w'

theorem zread_pz (s : ByteArray) (w : World) (h : scanN (bs s) = ((bs s).length, true)) (hl : ¬ 1000 < (bs s).length - sgl (bs s)) :
    Calls Tryz.prog 39 #[.string s] w (ZRet w (pz (bs s)) 1000) := by
  have hv := (code_of h hl).2
  have hsl := sgl_le (bs s)
  have hlen := bs_length s
  refine (zread_blk s w (allD_of_scan _ (by rw [h]) (by rw [h]; simp)) (by omega) (pz (bs s)) ?_).mono ?_
  · rw [hv]
    unfold sgn
    by_cases h1 : sgl (bs s) = 1
    · rw [if_pos h1]; rw [h1]; rfl
    · have h0 : sgl (bs s) = 0 := by omega
      rw [if_neg h1, h0]; rfl
  · intro e w' hr
    obtain ⟨b, a, n, c, e1, i, _, hx⟩ := hr.ret
    have := i.len_of (dig_lim (pz_lt _))
    exact ⟨b, a, n, c, e1, i, by have : digN = 250 := rfl; omega, hx⟩

set_option maxHeartbeats 8000000 in
set_option maxRecDepth 100000 in
theorem FParse_any (s : ByteArray) (w : World) (hs : s.size ≤ 9223372036854775807) (K : Nat) (hK : K ≤ 100000) (hK1 : 1 ≤ K) (hfit : ∀ z : Int, z.natAbs < Lim → Fit K z) :
    Calls Tryz.prog 6 #[.string s] w (FRetG w (fP (bs s)) (fQ (bs s)) (fcode (bs s)) (fat (bs s)) 40000) := by
  have Hword := Lib.hid (fun wx => word_any s wx hs)
  have HOf := Lib.hid (fun wx => ZOf_any 1 (by decide) (by decide) wx)
  have h1L : (1 : Int).natAbs < Lim := Nat.lt_of_lt_of_le (by decide) (lim_le 1 (by decide))
  have F1 := Lib.hid (hfit 1 h1L)
  have hlen := bs_length s
  have hle := scanN_le (bs s)
  rw [hlen] at hle
  have hE : Ext w ((w.alloc (.cells #[.bool false, .slice none 0 0, .bool false, .slice none 0 0] 35)).alloc (.cells #[.int .i64 0, .int .i64 0] 28)) := (ext_alloc w (.cells #[.bool false, .slice none 0 0, .bool false, .slice none 0 0] 35)).trans (ext_alloc _ (.cells #[.int .i64 0, .int .i64 0] 28))
  have bR := (fzbx_new w false none 0 0 false none 0 0).ext (ext_alloc _ (.cells #[.int .i64 0, .int .i64 0] 28))
  have bF : FRes ((w.alloc (.cells #[.bool false, .slice none 0 0, .bool false, .slice none 0 0] 35)).alloc (.cells #[.int .i64 0, .int .i64 0] 28)) (w.heap.size + 1) := by
    have := heap_alloc_new (w.alloc (.cells #[.bool false, .slice none 0 0, .bool false, .slice none 0 0] 35)) (.cells #[.int .i64 0, .int .i64 0] 28)
    exact ⟨by simp, by simpa using this⟩
  by_cases hsl : fsl (bs s)
  · -- a bar
    have hlt : (scanN (bs s)).1 < s.size := by have := hsl.2.1; rw [hlen] at this; exact this
    have hok : (scanN (bs s)).2 = true := hsl.1
    have hb : ((s[(scanN (bs s)).1].toNat : Int) == 47) = true := by rw [beq_iff_eq, bs_at s _ hlt]; have := hsl.2.2; omega
    have hx1 : bs (s.extract 0 (scanN (bs s)).1) = fab (bs s) := by rw [bs_extract]; unfold fab; simp
    have hx2 : bs (s.extract ((scanN (bs s)).1 + 1) s.size) = fbe (bs s) := by
      rw [bs_extract, List.take_of_length_le]
      · rfl
      · rw [List.length_drop, hlen]; omega
    have hz1 : (s.extract 0 (scanN (bs s)).1).size ≤ 9223372036854775807 := by rw [← bs_length, hx1]; unfold fab; rw [List.length_take, hlen]; omega
    have hz2 : (s.extract ((scanN (bs s)).1 + 1) s.size).size ≤ 9223372036854775807 := by rw [← bs_length, hx2]; unfold fbe; rw [List.length_drop, hlen]; omega
    have Hw2 := Lib.hid (fun wx => word_ff (s.extract ((scanN (bs s)).1 + 1) s.size) wx hz2)
    rw [hx2] at Hw2
    have hfe : fend (bs s) = (scanN (bs s)).1 + 1 + spos (fbe (bs s)) := by unfold fend; rw [if_pos hsl]; rfl
    have hfo : fokk (bs s) = decide (0 < spos (fbe (bs s))) := by unfold fokk; rw [if_pos hsl]; rfl
    have hbl : (fbe (bs s)).length = s.size - ((scanN (bs s)).1 + 1) := by unfold fbe; rw [List.length_drop, hlen]
    have hsp := spos_le (fbe (bs s))
    rw [hok] at Hword
    have hgi : ((scanN (bs s)).1 : Int) + 1 ≤ (s.size : Int) := by omega
    have hli : ((scanN (bs s)).1 : Int) < (s.size : Int) := by omega
    have hli' : ((scanN (bs s)).1 : Int) ≤ (s.size : Int) := by omega
    by_cases hg : fgood (bs s)
    · obtain ⟨q1, q2, q3, q4⟩ := fbe_scan hsl hg
      have hfab := fab_scan hsl
      have Hd1 := Lib.hid (fun wx => digitsOf_any (s.extract 0 (scanN (bs s)).1) wx hz1)
      have e1 : (s.extract 0 (scanN (bs s)).1).size = (fab (bs s)).length := by rw [← bs_length, hx1]
      rw [e1, hx1] at Hd1
      rw [q3] at Hw2
      rw [decide_eq_true q4] at Hw2
      obtain ⟨kb, hkb⟩ : ∃ kb, (fbe (bs s)).length = kb := ⟨_, rfl⟩
      obtain ⟨ka, hka⟩ : ∃ ka, (fab (bs s)).length - sgl (fab (bs s)) = ka := ⟨_, rfl⟩
      have hkal : ka ≤ s.size := by
        have : (fab (bs s)).length ≤ s.size := by unfold fab; rw [List.length_take, hlen]; omega
        omega
      rw [hkb] at Hw2
      rw [hka] at Hd1
      have hm : ((scanN (bs s)).1 : Int) + 1 + (kb : Int) = (s.size : Int) := by omega
      have hw1 : IntKind.i64.wrap ((s.size : Int) - ((scanN (bs s)).1 : Int)) = (kb : Int) + 1 := by rw [IntKind.wrap_i64]; omega
      have hw2 : IntKind.i64.wrap (kb : Int) = (kb : Int) := by rw [IntKind.wrap_i64]; omega
      have hss : ¬ (s.size : Int) < (s.size : Int) := by omega
      by_cases hlg : flg (bs s)
      · obtain ⟨v1, v2, v3, v4⟩ := f_long hg hsl hlg
        rw [v1, v2, v3, v4]
        have hcase : (1000 : Int) < (ka : Int) ∨ (¬ (1000 : Int) < (ka : Int) ∧ (1000 : Int) < (kb : Int)) := by
          unfold flg at hlg
          rw [hka, hkb, q2] at hlg
          omega
        generalize (scanN (bs s)).1 = en at *
        clear hsl hg hlen hle hfe hfo hfab hx1 hx2 hz1 hz2 e1 q1 q2 q3 q4 hlg v1 v2 v3 v4 hfit F1 hok hbl hsp hkb hka h1L
        rcases hcase with hc | ⟨hc, hc2⟩
        all_goals
          go_enter Tryz.func6, Tryz.ntmps6
          go_wp2_with fail
          generalize (w.alloc (.cells #[.bool false, .slice none 0 0, .bool false, .slice none 0 0] 35)).alloc (.cells #[.int .i64 0, .int .i64 0] 28) = W0 at *
          refine (HOf.out W0).mono ?_
          rintro e u0 ⟨b0, a0, n0, c0, rfl, J0, l0, hx0⟩
          have hq0 := hx0.trans (ext_alloc u0 (.cells #[.bool false, .slice none 0 0, .bool b0, .slice a0 n0 c0] 35))
          have bN := fzbx_new u0 false none 0 0 b0 a0 n0 c0
          have J1 := Lib.hid (J0.ext (ext_alloc u0 (.cells #[.bool false, .slice none 0 0, .bool b0, .slice a0 n0 c0] 35)))
          have lN : w.heap.size + 1 < u0.heap.size := Nat.lt_of_lt_of_le bF.lt hx0.size
          have bR := bR.ext hq0; have bF := bF.ext hq0
          have HE1 := Lib.hid (hE.trans hq0)
          have LN := Lib.hid lN
          clear J0 hx0 hq0 hE lN
          go_wp2_with fail
          generalize u0.alloc (.cells #[.bool false, .slice none 0 0, .bool b0, .slice a0 n0 c0] 35) = W1 at *
          generalize u0.heap.size = N at *
          refine (Hword.out W1).mono ?_
          rintro e w1 ⟨rfl, rfl⟩
          go_wp2_with fail
          refine (Hw2.out _).mono ?_
          rintro e w1 ⟨rfl, rfl⟩
          go_wp2_with fail
          refine (Hd1.out _).mono ?_
          rintro e w1 ⟨rfl, rfl⟩
          have lN := LN.out
          have d0 := bN.c0; have d1 := bN.c1; have d2 := bN.c2; have d3 := bN.c3
          have k0 := bR.c0; have k1 := bR.c1; have k2 := bR.c2; have k3 := bR.c3; have f0 := bR.f 0; have f1 := bR.f 1; have f2 := bR.f 2; have f3 := bR.f 3
          have k4 := bF.c0; have k5 := bF.c1; have f4 := bF.f0; have f5 := bF.f1
          go_wp2_with fail
          exact bodyPost_ret (v := .tuple #[.agg #[.bool false, .slice none 0 0, .bool b0, .slice a0 n0 c0], .agg #[.int .i64 2, .int .i64 0]]) (by simp [results, Tryz.results6, go_sem, k0, k1, k2, k3, k4, k5]) rfl ⟨false, none, 0, 0, b0, a0, n0, c0, rfl, IsZ.zero _, (J1.out).put6 bR bF (by omega) _ _ _ _ _ _, by omega, by omega, (((HE1.out).put2 (by omega) _ _).put2 (by omega) _ _).put2 (by omega) _ _⟩
      · obtain ⟨t1, t2, hbp, hb1⟩ := sides hsl hg hlg
        have hfi := form_iff hsl hg hlg
        have o1 : ¬ 1000 < (fab (bs s)).length - sgl (fab (bs s)) := fun h => hlg (Or.inl h)
        have o2 : ¬ 1000 < (fbe (bs s)).length - sgl (fbe (bs s)) := fun h => hlg (Or.inr h)
        have hc1 : ¬ (1000 : Int) < (ka : Int) := by omega
        have hc2 : ¬ (1000 : Int) < (kb : Int) := by rw [q2] at o2; omega
        have Hr1 := Lib.hid (fun wx => zread_pz (s.extract 0 (scanN (bs s)).1) wx (by rw [hx1]; exact hfab) (by rw [hx1]; exact o1))
        have Hr2 := Lib.hid (fun wx => zread_pz (s.extract ((scanN (bs s)).1 + 1) s.size) wx (by rw [hx2]; exact q1) (by rw [hx2]; exact o2))
        rw [hx1] at Hr1
        rw [hx2] at Hr2
        have La := pz_lt (fab (bs s)); have Lb := pz_lt (fbe (bs s))
        have hval : (ffm (bs s) → fP (bs s) = 0 ∧ fQ (bs s) = 1 ∧ fcode (bs s) = 3 ∧ fat (bs s) = 0) ∧ (¬ ffm (bs s) → fP (bs s) = nfp (pz (fab (bs s))) (pz (fbe (bs s))) ∧ fQ (bs s) = nfq (pz (fab (bs s))) (pz (fbe (bs s))) ∧ fcode (bs s) = 0 ∧ fat (bs s) = 0) := by
          refine ⟨f_form hg hsl hlg, fun hf => ?_⟩
          obtain ⟨v1, v2, v3, v4⟩ := f_fine hg hsl hlg hf
          have hgc : Nat.gcd (pz (fab (bs s))).natAbs (pz (fbe (bs s))).natAbs = 1 := Decidable.byContradiction fun h => hf (Or.inr h)
          obtain ⟨g1, g2⟩ := nf_self hbp hgc
          exact ⟨v1.trans g1.symm, v2.trans g2.symm, v3, v4⟩
        generalize fP (bs s) = vP at *
        generalize fQ (bs s) = vQ at *
        generalize fcode (bs s) = vC at *
        generalize fat (bs s) = vA at *
        have hfp : Fit K (nfp (pz (fab (bs s))) (pz (fbe (bs s)))) := hfit _ (Nat.lt_of_le_of_lt (nfp_le _ _) La)
        have hfq : Fit K (nfq (pz (fab (bs s))) (pz (fbe (bs s)))) := hfit _ (Nat.lt_of_le_of_lt (nfq_le _ _ (by omega)) Lb)
        have dP := dig_lim (Nat.lt_of_le_of_lt (nfp_le (pz (fab (bs s))) (pz (fbe (bs s)))) La)
        have dQ := dig_lim (Nat.lt_of_le_of_lt (nfq_le (pz (fab (bs s))) (pz (fbe (bs s))) (by omega)) Lb)
        generalize pz (fab (bs s)) = a at *
        generalize pz (fbe (bs s)) = b at *
        have hcase : ffm (bs s) ∨ ¬ ffm (bs s) := Classical.em _
        have Hover := Lib.hid (fun wx y1 y2 x1 x2 m1 j1 m2 j2 (i1 : IsZ wx y1 x1 m1 j1 a) (i2 : IsZ wx y2 x2 m2 j2 b) h1 h2 => fover_any y1 y2 x1 x2 m1 j1 m2 j2 a b wx i1 i2 h1 h2)
        obtain ⟨p, hp⟩ : ∃ p, nfp a b = p := ⟨_, rfl⟩
        obtain ⟨q, hq⟩ : ∃ q, nfq a b = q := ⟨_, rfl⟩
        simp only [hp, hq] at Hover hfi hval hfp hfq dP dQ
        have hco : (ffm (bs s) ∧ ((ftx p q).toList == s.toList) = false) ∨ (¬ ffm (bs s) ∧ ((ftx p q).toList == s.toList) = true) := by
          rcases hcase with hf | hf
          · refine Or.inl ⟨hf, ?_⟩
            rw [beq_eq_false_iff_ne]
            intro h
            have e : ftx p q = s := by
              apply bs_inj
              rw [ByteArray.toList_eq, ByteArray.toList_eq] at h
              unfold bs
              rw [h]
            exact hfi.1 e hf
          · refine Or.inr ⟨hf, ?_⟩
            rw [hfi.2 hf]; simp
        have Hfp := Lib.hid hfp; have Hfq := Lib.hid hfq; have HdP := Lib.hid dP; have HdQ := Lib.hid dQ
        have hdg : digN = 250 := rfl
        have Hval := Lib.hid hval
        have hwp : IntKind.i64.wrap (((scanN (bs s)).1 : Int) + 1) = ((scanN (bs s)).1 : Int) + 1 := by rw [IntKind.wrap_i64]; omega
        have hp0 : (0 : Int) ≤ ((scanN (bs s)).1 : Int) + 1 := by omega
        have hp1 : (0 : Int) ≤ ((scanN (bs s)).1 : Int) := by omega
        generalize (scanN (bs s)).1 = en at *
        clear hg hlen hle hfe hfo hfab hx1 hx2 hz1 hz2 e1 q1 q2 q3 q4 hlg hfit F1 hok hbl hsp hkb hka h1L t1 t2 hbp hb1 o1 o2 La Lb hcase hfi hval hfp hfq dP dQ hp hq hsl
        rcases hco with ⟨hf, hc⟩ | ⟨hf, hc⟩
        · have hv := Hval.out.1 hf
          rw [hv.1, hv.2.1, hv.2.2.1, hv.2.2.2]
          clear hv Hval hf
          go_enter Tryz.func6, Tryz.ntmps6
          go_wp2_with fail
          generalize (w.alloc (.cells #[.bool false, .slice none 0 0, .bool false, .slice none 0 0] 35)).alloc (.cells #[.int .i64 0, .int .i64 0] 28) = W0 at *
          refine (HOf.out W0).mono ?_
          rintro e u0 ⟨b0, a0, n0, c0, rfl, J0, l0, hx0⟩
          have hq0 := hx0.trans (ext_alloc u0 (.cells #[.bool false, .slice none 0 0, .bool b0, .slice a0 n0 c0] 35))
          have bN := fzbx_new u0 false none 0 0 b0 a0 n0 c0
          have J1 := Lib.hid (J0.ext (ext_alloc u0 (.cells #[.bool false, .slice none 0 0, .bool b0, .slice a0 n0 c0] 35)))
          have lN : w.heap.size + 1 < u0.heap.size := Nat.lt_of_lt_of_le bF.lt hx0.size
          have bR := bR.ext hq0; have bF := bF.ext hq0
          have HE1 := Lib.hid (hE.trans hq0)
          have LN := Lib.hid lN
          clear J0 hx0 hq0 hE lN
          go_wp2_with fail
          generalize u0.alloc (.cells #[.bool false, .slice none 0 0, .bool b0, .slice a0 n0 c0] 35) = W1 at *
          generalize u0.heap.size = N at *
          refine (Hword.out W1).mono ?_
          rintro e w1 ⟨rfl, rfl⟩
          go_wp2_with fail
          refine (Hw2.out _).mono ?_
          rintro e w1 ⟨rfl, rfl⟩
          go_wp2_with fail
          refine (Hd1.out _).mono ?_
          rintro e w1 ⟨rfl, rfl⟩
          go_wp2_with fail
          refine (Hr1.out _).mono ?_
          rintro e u1 ⟨b1, a1, n1, c1, rfl, I1, l1, hx1⟩
          go_wp2_with fail
          refine (HOf.out _).mono ?_
          rintro e u2 ⟨b2, a2, n2, c2, rfl, I2, l2, hx2⟩
          have bX := fzbx_new u2 b1 a1 n1 c1 b2 a2 n2 c2
          have hq2 := hx1.trans (hx2.trans (ext_alloc u2 (.cells #[.bool b1, .slice a1 n1 c1, .bool b2, .slice a2 n2 c2] 35)))
          have lX : N < u2.heap.size := Nat.lt_of_lt_of_le bN.lt (hx1.trans hx2).size
          have bN := bN.ext hq2; have bR := bR.ext hq2; have bF := bF.ext hq2
          have J2 := Lib.hid (J1.out.ext hq2); have HE2 := Lib.hid (HE1.out.trans hq2)
          have LX := Lib.hid lX
          clear I1 I2 hx1 hx2 hq2 lX J1 HE1
          go_wp2_with fail
          generalize u2.alloc (.cells #[.bool b1, .slice a1 n1 c1, .bool b2, .slice a2 n2 c2] 35) = W2 at *
          generalize u2.heap.size = X at *
          have h0d : Ext W2 W2.drew := Below.drew (Ext.refl _)
          go_region_held3 (fun _ => True) (trivial)
            (first
              | (have _ := qv1; go_at_call 40; refine (Hover.out _ sv0 sv1 ov0 ov1 mv0 jv0 mv1 jv1 (Kv0.ext qv1) Kv1 (by omega) (by omega)).mono ?_; rintro e v2 ⟨b9, a9, n9, c9, b8, a8, n8, c8, rfl, I9, I8, l9, l8, qv2⟩; have hv2 : Ext W2 v2 := hv1.trans qv2; have X5 := bX.ext hv2; have m0 := X5.c0; have m1 := X5.c1; have m2 := X5.c2; have m3 := X5.c3; have h0 := X5.f 0; have h1 := X5.f 1; have h2 := X5.f 2; have h3 := X5.f 3)
              | (have _ := qv0; go_at_call 39; refine (Hr2.out _).mono ?_; rintro e v1 ⟨sv1, ov1, mv1, jv1, rfl, Kv1, Lv1, qv1⟩; have hv1 : Ext W2 v1 := hv0.trans qv1)
              | (go_at_call 39; refine (Hr1.out _).mono ?_; rintro e v0 ⟨sv0, ov0, mv0, jv0, rfl, Kv0, Lv0, qv0⟩; have hv0 : Ext W2 v0 := Ext.trans (by assumption) qv0))
          have lN := LN.out; have lX := LX.out
          have hO : Only X v2 ((((v2.setCell ⟨X, 0, none⟩ (.bool b9)).setCell ⟨X, 1, none⟩ (.slice a9 n9 c9)).setCell ⟨X, 2, none⟩ (.bool b8)).setCell ⟨X, 3, none⟩ (.slice a8 n8 c8)) := ((((Only.refl _ _).setCell _ _).setCell _ _).setCell _ _).setCell _ _
          have hSz : v2.heap.size ≤ ((((v2.setCell ⟨X, 0, none⟩ (.bool b9)).setCell ⟨X, 1, none⟩ (.slice a9 n9 c9)).setCell ⟨X, 2, none⟩ (.bool b8)).setCell ⟨X, 3, none⟩ (.slice a8 n8 c8)).heap.size := by simp [World.setCell]
          have I9 := I9.put4 X5 (.bool b9) (.slice a9 n9 c9) (.bool b8) (.slice a8 n8 c8); have I8 := I8.put4 X5 (.bool b9) (.slice a9 n9 c9) (.bool b8) (.slice a8 n8 c8)
          have J3 := Lib.hid ((J2.out.ext hv2).put4 X5 (.bool b9) (.slice a9 n9 c9) (.bool b8) (.slice a8 n8 c8))
          have bX := X5.own4 b9 a9 n9 c9 b8 a8 n8 c8
          have bN := (bN.ext hv2).only hO (by omega); have bR := (bR.ext hv2).only hO (by omega); have bF := (bF.ext hv2).only hO (by omega) hSz
          have HE3 := Lib.hid (((HE2.out.trans hv2).put2 (g := X) (o := 0) (o' := 1) (by omega) (.bool b9) (.slice a9 n9 c9)).put2 (g := X) (o := 2) (o' := 3) (by omega) (.bool b8) (.slice a8 n8 c8))
          clear hO hSz X5 m0 m1 m2 m3 h0 h1 h2 h3 hv0 qv0 hv1 qv1 hv2 qv2 Kv0 Kv1 h0d
          generalize (((v2.setCell ⟨X, 0, none⟩ (.bool b9)).setCell ⟨X, 1, none⟩ (.slice a9 n9 c9)).setCell ⟨X, 2, none⟩ (.bool b8)).setCell ⟨X, 3, none⟩ (.slice a8 n8 c8) = W3 at *
          have x0 := bX.c0; have x1 := bX.c1; have x2 := bX.c2; have x3 := bX.c3
          have L9 := I9.len_of HdP.out; have L8 := I8.len_of HdQ.out
          go_wp2_with fail
          refine (FText_any b9 a9 n9 c9 b8 a8 n8 c8 p q W3 I9 I8 (by omega) (by omega) K hK hK1 Hfp.out Hfq.out).mono ?_
          rintro e V ⟨rfl, hxV⟩
          clear x0 x1 x2 x3
          have bX := bX.ext hxV
          have x0 := bX.c0; have x1 := bX.c1; have x2 := bX.c2; have x3 := bX.c3
          have I9 := I9.ext hxV; have I8 := I8.ext hxV; have J4 := Lib.hid (J3.out.ext hxV); have HE4 := Lib.hid (HE3.out.trans hxV)
          have bN := bN.ext hxV; have bR := bR.ext hxV; have bF := bF.ext hxV
          have d0 := bN.c0; have d1 := bN.c1; have d2 := bN.c2; have d3 := bN.c3
          have k0 := bR.c0; have k1 := bR.c1; have k2 := bR.c2; have k3 := bR.c3; have f0 := bR.f 0; have f1 := bR.f 1; have f2 := bR.f 2; have f3 := bR.f 3
          have k4 := bF.c0; have k5 := bF.c1; have f4 := bF.f0; have f5 := bF.f1
          go_wp2_with fail
          exact bodyPost_ret (v := .tuple #[.agg #[.bool false, .slice none 0 0, .bool b0, .slice a0 n0 c0], .agg #[.int .i64 3, .int .i64 0]]) (by simp [results, Tryz.results6, go_sem, k0, k1, k2, k3, k4, k5]) rfl ⟨false, none, 0, 0, b0, a0, n0, c0, rfl, IsZ.zero _, J4.out.put6 bR bF (by omega) _ _ _ _ _ _, by omega, by omega, ((HE4.out.put2 (by omega) _ _).put2 (by omega) _ _).put2 (by omega) _ _⟩
        · have hv := Hval.out.2 hf
          rw [hv.1, hv.2.1, hv.2.2.1, hv.2.2.2]
          clear hv Hval hf
          go_enter Tryz.func6, Tryz.ntmps6
          go_wp2_with fail
          generalize (w.alloc (.cells #[.bool false, .slice none 0 0, .bool false, .slice none 0 0] 35)).alloc (.cells #[.int .i64 0, .int .i64 0] 28) = W0 at *
          refine (HOf.out W0).mono ?_
          rintro e u0 ⟨b0, a0, n0, c0, rfl, J0, l0, hx0⟩
          have hq0 := hx0.trans (ext_alloc u0 (.cells #[.bool false, .slice none 0 0, .bool b0, .slice a0 n0 c0] 35))
          have bN := fzbx_new u0 false none 0 0 b0 a0 n0 c0
          have J1 := Lib.hid (J0.ext (ext_alloc u0 (.cells #[.bool false, .slice none 0 0, .bool b0, .slice a0 n0 c0] 35)))
          have lN : w.heap.size + 1 < u0.heap.size := Nat.lt_of_lt_of_le bF.lt hx0.size
          have bR := bR.ext hq0; have bF := bF.ext hq0
          have HE1 := Lib.hid (hE.trans hq0)
          have LN := Lib.hid lN
          clear J0 hx0 hq0 hE lN
          go_wp2_with fail
          generalize u0.alloc (.cells #[.bool false, .slice none 0 0, .bool b0, .slice a0 n0 c0] 35) = W1 at *
          generalize u0.heap.size = N at *
          refine (Hword.out W1).mono ?_
          rintro e w1 ⟨rfl, rfl⟩
          go_wp2_with fail
          refine (Hw2.out _).mono ?_
          rintro e w1 ⟨rfl, rfl⟩
          go_wp2_with fail
          refine (Hd1.out _).mono ?_
          rintro e w1 ⟨rfl, rfl⟩
          go_wp2_with fail
          refine (Hr1.out _).mono ?_
          rintro e u1 ⟨b1, a1, n1, c1, rfl, I1, l1, hx1⟩
          go_wp2_with fail
          refine (HOf.out _).mono ?_
          rintro e u2 ⟨b2, a2, n2, c2, rfl, I2, l2, hx2⟩
          have bX := fzbx_new u2 b1 a1 n1 c1 b2 a2 n2 c2
          have hq2 := hx1.trans (hx2.trans (ext_alloc u2 (.cells #[.bool b1, .slice a1 n1 c1, .bool b2, .slice a2 n2 c2] 35)))
          have lX : N < u2.heap.size := Nat.lt_of_lt_of_le bN.lt (hx1.trans hx2).size
          have bN := bN.ext hq2; have bR := bR.ext hq2; have bF := bF.ext hq2
          have J2 := Lib.hid (J1.out.ext hq2); have HE2 := Lib.hid (HE1.out.trans hq2)
          have LX := Lib.hid lX
          clear I1 I2 hx1 hx2 hq2 lX J1 HE1
          go_wp2_with fail
          generalize u2.alloc (.cells #[.bool b1, .slice a1 n1 c1, .bool b2, .slice a2 n2 c2] 35) = W2 at *
          generalize u2.heap.size = X at *
          have h0d : Ext W2 W2.drew := Below.drew (Ext.refl _)
          go_region_held3 (fun _ => True) (trivial)
            (first
              | (have _ := qv1; go_at_call 40; refine (Hover.out _ sv0 sv1 ov0 ov1 mv0 jv0 mv1 jv1 (Kv0.ext qv1) Kv1 (by omega) (by omega)).mono ?_; rintro e v2 ⟨b9, a9, n9, c9, b8, a8, n8, c8, rfl, I9, I8, l9, l8, qv2⟩; have hv2 : Ext W2 v2 := hv1.trans qv2; have X5 := bX.ext hv2; have m0 := X5.c0; have m1 := X5.c1; have m2 := X5.c2; have m3 := X5.c3; have h0 := X5.f 0; have h1 := X5.f 1; have h2 := X5.f 2; have h3 := X5.f 3)
              | (have _ := qv0; go_at_call 39; refine (Hr2.out _).mono ?_; rintro e v1 ⟨sv1, ov1, mv1, jv1, rfl, Kv1, Lv1, qv1⟩; have hv1 : Ext W2 v1 := hv0.trans qv1)
              | (go_at_call 39; refine (Hr1.out _).mono ?_; rintro e v0 ⟨sv0, ov0, mv0, jv0, rfl, Kv0, Lv0, qv0⟩; have hv0 : Ext W2 v0 := Ext.trans (by assumption) qv0))
          have lN := LN.out; have lX := LX.out
          have hO : Only X v2 ((((v2.setCell ⟨X, 0, none⟩ (.bool b9)).setCell ⟨X, 1, none⟩ (.slice a9 n9 c9)).setCell ⟨X, 2, none⟩ (.bool b8)).setCell ⟨X, 3, none⟩ (.slice a8 n8 c8)) := ((((Only.refl _ _).setCell _ _).setCell _ _).setCell _ _).setCell _ _
          have hSz : v2.heap.size ≤ ((((v2.setCell ⟨X, 0, none⟩ (.bool b9)).setCell ⟨X, 1, none⟩ (.slice a9 n9 c9)).setCell ⟨X, 2, none⟩ (.bool b8)).setCell ⟨X, 3, none⟩ (.slice a8 n8 c8)).heap.size := by simp [World.setCell]
          have I9 := I9.put4 X5 (.bool b9) (.slice a9 n9 c9) (.bool b8) (.slice a8 n8 c8); have I8 := I8.put4 X5 (.bool b9) (.slice a9 n9 c9) (.bool b8) (.slice a8 n8 c8)
          have J3 := Lib.hid ((J2.out.ext hv2).put4 X5 (.bool b9) (.slice a9 n9 c9) (.bool b8) (.slice a8 n8 c8))
          have bX := X5.own4 b9 a9 n9 c9 b8 a8 n8 c8
          have bN := (bN.ext hv2).only hO (by omega); have bR := (bR.ext hv2).only hO (by omega); have bF := (bF.ext hv2).only hO (by omega) hSz
          have HE3 := Lib.hid (((HE2.out.trans hv2).put2 (g := X) (o := 0) (o' := 1) (by omega) (.bool b9) (.slice a9 n9 c9)).put2 (g := X) (o := 2) (o' := 3) (by omega) (.bool b8) (.slice a8 n8 c8))
          clear hO hSz X5 m0 m1 m2 m3 h0 h1 h2 h3 hv0 qv0 hv1 qv1 hv2 qv2 Kv0 Kv1 h0d
          generalize (((v2.setCell ⟨X, 0, none⟩ (.bool b9)).setCell ⟨X, 1, none⟩ (.slice a9 n9 c9)).setCell ⟨X, 2, none⟩ (.bool b8)).setCell ⟨X, 3, none⟩ (.slice a8 n8 c8) = W3 at *
          have x0 := bX.c0; have x1 := bX.c1; have x2 := bX.c2; have x3 := bX.c3
          have L9 := I9.len_of HdP.out; have L8 := I8.len_of HdQ.out
          go_wp2_with fail
          refine (FText_any b9 a9 n9 c9 b8 a8 n8 c8 p q W3 I9 I8 (by omega) (by omega) K hK hK1 Hfp.out Hfq.out).mono ?_
          rintro e V ⟨rfl, hxV⟩
          clear x0 x1 x2 x3
          have bX := bX.ext hxV
          have x0 := bX.c0; have x1 := bX.c1; have x2 := bX.c2; have x3 := bX.c3
          have I9 := I9.ext hxV; have I8 := I8.ext hxV; have J4 := Lib.hid (J3.out.ext hxV); have HE4 := Lib.hid (HE3.out.trans hxV)
          have bN := bN.ext hxV; have bR := bR.ext hxV; have bF := bF.ext hxV
          have d0 := bN.c0; have d1 := bN.c1; have d2 := bN.c2; have d3 := bN.c3
          have k0 := bR.c0; have k1 := bR.c1; have k2 := bR.c2; have k3 := bR.c3; have f0 := bR.f 0; have f1 := bR.f 1; have f2 := bR.f 2; have f3 := bR.f 3
          have k4 := bF.c0; have k5 := bF.c1; have f4 := bF.f0; have f5 := bF.f1
          go_wp2_with fail
          exact bodyPost_ret (v := .tuple #[.agg #[.bool b9, .slice a9 n9 c9, .bool b8, .slice a8 n8 c8], .agg #[.int .i64 0, .int .i64 0]]) (by simp [results, Tryz.results6, go_sem, k0, k1, k2, k3, k4, k5]) rfl ⟨b9, a9, n9, c9, b8, a8, n8, c8, rfl, I9.put6 bR bF (by omega) _ _ _ _ _ _, I8.put6 bR bF (by omega) _ _ _ _ _ _, by omega, by omega, ((HE4.out.put2 (by omega) _ _).put2 (by omega) _ _).put2 (by omega) _ _⟩
    · obtain ⟨v1, v2, v3, v4⟩ := f_bad hg
      rw [v1, v2, v3, v4, hfe]
      obtain ⟨kb, hkb⟩ : ∃ kb, spos (fbe (bs s)) = kb := ⟨_, rfl⟩
      rw [hkb] at Hw2
      rw [hkb]
      have hcase : kb = 0 ∨ (decide (0 < kb) = true ∧ ((scanN (bs s)).1 : Int) + 1 + (kb : Int) < (s.size : Int)) := by
        by_cases h0 : kb = 0
        · exact Or.inl h0
        · refine Or.inr ⟨decide_eq_true (by omega), ?_⟩
          have : fend (bs s) < (bs s).length := Decidable.byContradiction fun h => hg ⟨by rw [hfo, hkb]; exact decide_eq_true (by omega), h⟩
          rw [hfe, hkb, hlen] at this
          omega
      have hmx : ((scanN (bs s)).1 : Int) + 1 + (kb : Int) ≤ (s.size : Int) := by omega
      generalize (scanN (bs s)).1 = en at *
      clear hsl hg hlen hle hfe hfo hx1 hx2 hz1 hz2 v1 v2 v3 v4 hfit F1 hok hbl hsp hkb h1L
      rcases hcase with rfl | ⟨hd, hc⟩
      · rw [decide_eq_false (by omega)] at Hw2
        go_enter Tryz.func6, Tryz.ntmps6
        go_wp2_with fail
        generalize (w.alloc (.cells #[.bool false, .slice none 0 0, .bool false, .slice none 0 0] 35)).alloc (.cells #[.int .i64 0, .int .i64 0] 28) = W0 at *
        refine (HOf.out W0).mono ?_
        rintro e u0 ⟨b0, a0, n0, c0, rfl, J0, l0, hx0⟩
        have hq0 := hx0.trans (ext_alloc u0 (.cells #[.bool false, .slice none 0 0, .bool b0, .slice a0 n0 c0] 35))
        have bN := fzbx_new u0 false none 0 0 b0 a0 n0 c0
        have J1 := Lib.hid (J0.ext (ext_alloc u0 (.cells #[.bool false, .slice none 0 0, .bool b0, .slice a0 n0 c0] 35)))
        have lN : w.heap.size + 1 < u0.heap.size := Nat.lt_of_lt_of_le bF.lt hx0.size
        have bR := bR.ext hq0; have bF := bF.ext hq0
        have HE1 := Lib.hid (hE.trans hq0)
        have LN := Lib.hid lN
        clear J0 hx0 hq0 hE lN
        go_wp2_with fail
        generalize u0.alloc (.cells #[.bool false, .slice none 0 0, .bool b0, .slice a0 n0 c0] 35) = W1 at *
        generalize u0.heap.size = N at *
        refine (Hword.out W1).mono ?_
        rintro e w1 ⟨rfl, rfl⟩
        go_wp2_with fail
        refine (Hw2.out _).mono ?_
        rintro e w1 ⟨rfl, rfl⟩
        have lN := LN.out
        have d0 := bN.c0; have d1 := bN.c1; have d2 := bN.c2; have d3 := bN.c3
        have k0 := bR.c0; have k1 := bR.c1; have k2 := bR.c2; have k3 := bR.c3; have f0 := bR.f 0; have f1 := bR.f 1; have f2 := bR.f 2; have f3 := bR.f 3
        have k4 := bF.c0; have k5 := bF.c1; have f4 := bF.f0; have f5 := bF.f1
        go_wp2_with fail
        exact bodyPost_ret (v := .tuple #[.agg #[.bool false, .slice none 0 0, .bool b0, .slice a0 n0 c0], .agg #[.int .i64 1, .int .i64 (((en + 1 + 0 : Nat)) : Int)]]) (by simp [results, Tryz.results6, go_sem, k0, k1, k2, k3, k4, k5]) rfl ⟨false, none, 0, 0, b0, a0, n0, c0, rfl, IsZ.zero _, J1.out.put6 bR bF (by omega) _ _ _ _ _ _, by omega, by omega, ((HE1.out.put2 (by omega) _ _).put2 (by omega) _ _).put2 (by omega) _ _⟩
      · rw [hd] at Hw2
        clear hd
        go_enter Tryz.func6, Tryz.ntmps6
        go_wp2_with fail
        generalize (w.alloc (.cells #[.bool false, .slice none 0 0, .bool false, .slice none 0 0] 35)).alloc (.cells #[.int .i64 0, .int .i64 0] 28) = W0 at *
        refine (HOf.out W0).mono ?_
        rintro e u0 ⟨b0, a0, n0, c0, rfl, J0, l0, hx0⟩
        have hq0 := hx0.trans (ext_alloc u0 (.cells #[.bool false, .slice none 0 0, .bool b0, .slice a0 n0 c0] 35))
        have bN := fzbx_new u0 false none 0 0 b0 a0 n0 c0
        have J1 := Lib.hid (J0.ext (ext_alloc u0 (.cells #[.bool false, .slice none 0 0, .bool b0, .slice a0 n0 c0] 35)))
        have lN : w.heap.size + 1 < u0.heap.size := Nat.lt_of_lt_of_le bF.lt hx0.size
        have bR := bR.ext hq0; have bF := bF.ext hq0
        have HE1 := Lib.hid (hE.trans hq0)
        have LN := Lib.hid lN
        clear J0 hx0 hq0 hE lN
        go_wp2_with fail
        generalize u0.alloc (.cells #[.bool false, .slice none 0 0, .bool b0, .slice a0 n0 c0] 35) = W1 at *
        generalize u0.heap.size = N at *
        refine (Hword.out W1).mono ?_
        rintro e w1 ⟨rfl, rfl⟩
        go_wp2_with fail
        refine (Hw2.out _).mono ?_
        rintro e w1 ⟨rfl, rfl⟩
        have lN := LN.out
        have d0 := bN.c0; have d1 := bN.c1; have d2 := bN.c2; have d3 := bN.c3
        have k0 := bR.c0; have k1 := bR.c1; have k2 := bR.c2; have k3 := bR.c3; have f0 := bR.f 0; have f1 := bR.f 1; have f2 := bR.f 2; have f3 := bR.f 3
        have k4 := bF.c0; have k5 := bF.c1; have f4 := bF.f0; have f5 := bF.f1
        go_wp2_with fail
        exact bodyPost_ret (v := .tuple #[.agg #[.bool false, .slice none 0 0, .bool b0, .slice a0 n0 c0], .agg #[.int .i64 1, .int .i64 (((en + 1 + kb : Nat)) : Int)]]) (by simp [results, Tryz.results6, go_sem, k0, k1, k2, k3, k4, k5]) rfl ⟨false, none, 0, 0, b0, a0, n0, c0, rfl, IsZ.zero _, J1.out.put6 bR bF (by omega) _ _ _ _ _ _, by omega, by omega, ((HE1.out.put2 (by omega) _ _).put2 (by omega) _ _).put2 (by omega) _ _⟩
  · -- none
    obtain ⟨en, hen⟩ : ∃ en, (scanN (bs s)).1 = en := ⟨_, rfl⟩
    obtain ⟨ok, hok⟩ : ∃ ok, (scanN (bs s)).2 = ok := ⟨_, rfl⟩
    have hfe : fend (bs s) = en := by unfold fend; rw [if_neg hsl, hen]
    have hfo : fokk (bs s) = ok := by unfold fokk; rw [if_neg hsl, hok]
    rw [hen, hok] at Hword
    rw [hen] at hle
    by_cases hg : fgood (bs s)
    · obtain ⟨v1, v2, v3, v4⟩ := f_whole hg hsl
      rw [v1, v2, v3, v4]
      obtain rfl : ok = true := by rw [← hfo]; exact hg.1
      obtain rfl : en = s.size := by have := hg.2; rw [hfe, hlen] at this; omega
      have hsc : scanN (bs s) = ((bs s).length, true) := by rw [hlen, ← hen, ← hok]
      have hxs : s.extract 0 s.size = s := bs_inj (by rw [bs_extract]; simp; exact List.take_of_length_le (by rw [hlen]; exact Nat.le_refl _))
      have Hd1 := Lib.hid (fun wx => digitsOf_any s wx hs)
      obtain ⟨ka, hka⟩ : ∃ ka, s.size - sgl (bs s) = ka := ⟨_, rfl⟩
      rw [hka] at Hd1
      have hss : ¬ (s.size : Int) < (s.size : Int) := by omega
      have hll : (s.size : Int) ≤ (s.size : Int) := by omega
      have hpa : pat (bs s) = 0 := by unfold pat; rw [hsc, if_pos ⟨rfl, by simp⟩]
      rw [hpa]
      by_cases hlg : 1000 < ka
      · have hpc : pcode (bs s) = 2 := by unfold pcode; rw [hsc, if_pos ⟨rfl, by simp⟩, if_pos (by rw [hlen, hka]; exact hlg)]
        have hpz : pz (bs s) = 0 := by unfold pz; rw [if_neg]; rw [hlen, hka]; exact fun h => h.2.2 hlg
        rw [hpc, hpz]
        have hc : (1000 : Int) < (ka : Int) := by omega
        clear hsl hg hlen hle hfe hfo v1 v2 v3 v4 hfit F1 hok h1L hen hsc hka hpa hpc hpz hlg
        go_enter Tryz.func6, Tryz.ntmps6
        go_wp2_with fail
        generalize (w.alloc (.cells #[.bool false, .slice none 0 0, .bool false, .slice none 0 0] 35)).alloc (.cells #[.int .i64 0, .int .i64 0] 28) = W0 at *
        refine (HOf.out W0).mono ?_
        rintro e u0 ⟨b0, a0, n0, c0, rfl, J0, l0, hx0⟩
        have hq0 := hx0.trans (ext_alloc u0 (.cells #[.bool false, .slice none 0 0, .bool b0, .slice a0 n0 c0] 35))
        have bN := fzbx_new u0 false none 0 0 b0 a0 n0 c0
        have J1 := Lib.hid (J0.ext (ext_alloc u0 (.cells #[.bool false, .slice none 0 0, .bool b0, .slice a0 n0 c0] 35)))
        have lN : w.heap.size + 1 < u0.heap.size := Nat.lt_of_lt_of_le bF.lt hx0.size
        have bR := bR.ext hq0; have bF := bF.ext hq0
        have HE1 := Lib.hid (hE.trans hq0)
        have LN := Lib.hid lN
        clear J0 hx0 hq0 hE lN
        go_wp2_with fail
        generalize u0.alloc (.cells #[.bool false, .slice none 0 0, .bool b0, .slice a0 n0 c0] 35) = W1 at *
        generalize u0.heap.size = N at *
        refine (Hword.out W1).mono ?_
        rintro e w1 ⟨rfl, rfl⟩
        go_wp2_with fail
        try rw [hxs]
        refine (Hd1.out _).mono ?_
        rintro e w1 ⟨rfl, rfl⟩
        have lN := LN.out
        have d0 := bN.c0; have d1 := bN.c1; have d2 := bN.c2; have d3 := bN.c3
        have k0 := bR.c0; have k1 := bR.c1; have k2 := bR.c2; have k3 := bR.c3; have f0 := bR.f 0; have f1 := bR.f 1; have f2 := bR.f 2; have f3 := bR.f 3
        have k4 := bF.c0; have k5 := bF.c1; have f4 := bF.f0; have f5 := bF.f1
        go_wp2_with fail
        exact bodyPost_ret (v := .tuple #[.agg #[.bool false, .slice none 0 0, .bool b0, .slice a0 n0 c0], .agg #[.int .i64 ((2 : Nat) : Int), .int .i64 ((0 : Nat) : Int)]]) (by simp [results, Tryz.results6, go_sem, k0, k1, k2, k3, k4, k5]) rfl ⟨false, none, 0, 0, b0, a0, n0, c0, rfl, IsZ.zero _, (J1.out).put6 bR bF (by omega) _ _ _ _ _ _, by omega, by omega, (((HE1.out).put2 (by omega) _ _).put2 (by omega) _ _).put2 (by omega) _ _⟩
      · have hlg' : ¬ 1000 < (bs s).length - sgl (bs s) := by rw [hlen, hka]; exact hlg
        have hpc : pcode (bs s) = 0 := (code_of hsc hlg').1
        have hback := itoa_back s hpc
        rw [hpc]
        have Hr1 := Lib.hid (fun wx => zread_pz s wx hsc hlg')
        have La := pz_lt (bs s)
        have dP := Lib.hid (dig_lim La)
        have Fz := Lib.hid (hfit _ La)
        generalize pz (bs s) = z at *
        have hft : ftx z 1 = s := by unfold ftx; rw [if_pos rfl]; exact hback
        have hc : ((ftx z 1).toList == s.toList) = true := by rw [hft]; simp
        have hdg : digN = 250 := rfl
        have hc1 : ¬ (1000 : Int) < (ka : Int) := by omega
        have hw1 : IntKind.i64.wrap ((s.size : Int) - (s.size : Int)) = 0 := by rw [IntKind.wrap_i64]; omega
        clear hsl hg hlen hle hfe hfo v1 v2 v3 v4 hfit hok h1L hen hsc hka hpa hpc hlg hlg' hback hft La
        go_enter Tryz.func6, Tryz.ntmps6
        go_wp2_with fail
        generalize (w.alloc (.cells #[.bool false, .slice none 0 0, .bool false, .slice none 0 0] 35)).alloc (.cells #[.int .i64 0, .int .i64 0] 28) = W0 at *
        refine (HOf.out W0).mono ?_
        rintro e u0 ⟨b0, a0, n0, c0, rfl, J0, l0, hx0⟩
        have hq0 := hx0.trans (ext_alloc u0 (.cells #[.bool false, .slice none 0 0, .bool b0, .slice a0 n0 c0] 35))
        have bN := fzbx_new u0 false none 0 0 b0 a0 n0 c0
        have J1 := Lib.hid (J0.ext (ext_alloc u0 (.cells #[.bool false, .slice none 0 0, .bool b0, .slice a0 n0 c0] 35)))
        have lN : w.heap.size + 1 < u0.heap.size := Nat.lt_of_lt_of_le bF.lt hx0.size
        have bR := bR.ext hq0; have bF := bF.ext hq0
        have HE1 := Lib.hid (hE.trans hq0)
        have LN := Lib.hid lN
        clear J0 hx0 hq0 hE lN
        go_wp2_with fail
        generalize u0.alloc (.cells #[.bool false, .slice none 0 0, .bool b0, .slice a0 n0 c0] 35) = W1 at *
        generalize u0.heap.size = N at *
        refine (Hword.out W1).mono ?_
        rintro e w1 ⟨rfl, rfl⟩
        go_wp2_with fail
        try rw [hxs]
        refine (Hd1.out _).mono ?_
        rintro e w1 ⟨rfl, rfl⟩
        go_wp2_with fail
        try rw [hxs]
        refine (Hr1.out _).mono ?_
        rintro e u1 ⟨b1, a1, n1, c1, rfl, I1, l1, hx1⟩
        go_wp2_with fail
        refine (HOf.out _).mono ?_
        rintro e u2 ⟨b2, a2, n2, c2, rfl, I2, l2, hx2⟩
        have bX := fzbx_new u2 b1 a1 n1 c1 b2 a2 n2 c2
        have hqx := ext_alloc u2 (.cells #[.bool b1, .slice a1 n1 c1, .bool b2, .slice a2 n2 c2] 35)
        have hq2 := hx1.trans (hx2.trans hqx)
        have I1 := I1.ext (hx2.trans hqx); have I2 := I2.ext hqx
        have bN := bN.ext hq2; have bR := bR.ext hq2; have bF := bF.ext hq2
        have HE2 := Lib.hid (HE1.out.trans hq2)
        have x0 := bX.c0; have x1 := bX.c1; have x2 := bX.c2; have x3 := bX.c3
        clear hx1 hx2 hq2 hqx HE1
        go_wp2_with fail
        generalize u2.alloc (.cells #[.bool b1, .slice a1 n1 c1, .bool b2, .slice a2 n2 c2] 35) = W2 at *
        generalize u2.heap.size = X at *
        clear x0 x1 x2 x3
        refine (FText_any b1 a1 n1 c1 b2 a2 n2 c2 z 1 W2 I1 I2 (by omega) (by omega) K hK hK1 Fz.out F1.out).mono ?_
        rintro e V ⟨rfl, hxV⟩
        have bX := bX.ext hxV
        have x0 := bX.c0; have x1 := bX.c1; have x2 := bX.c2; have x3 := bX.c3
        have I1 := I1.ext hxV; have I2 := I2.ext hxV; have HE3 := Lib.hid (HE2.out.trans hxV)
        have lN := LN.out
        have bN := bN.ext hxV; have bR := bR.ext hxV; have bF := bF.ext hxV
        have d0 := bN.c0; have d1 := bN.c1; have d2 := bN.c2; have d3 := bN.c3
        have k0 := bR.c0; have k1 := bR.c1; have k2 := bR.c2; have k3 := bR.c3; have f0 := bR.f 0; have f1 := bR.f 1; have f2 := bR.f 2; have f3 := bR.f 3
        have k4 := bF.c0; have k5 := bF.c1; have f4 := bF.f0; have f5 := bF.f1
        go_wp2_with fail
        exact bodyPost_ret (v := .tuple #[.agg #[.bool b1, .slice a1 n1 c1, .bool b2, .slice a2 n2 c2], .agg #[.int .i64 ((0 : Nat) : Int), .int .i64 ((0 : Nat) : Int)]]) (by simp [results, Tryz.results6, go_sem, k0, k1, k2, k3, k4, k5]) rfl ⟨b1, a1, n1, c1, b2, a2, n2, c2, rfl, I1.put6 bR bF (by omega) _ _ _ _ _ _, I2.put6 bR bF (by omega) _ _ _ _ _ _, by omega, by omega, ((HE3.out.put2 (by omega) _ _).put2 (by omega) _ _).put2 (by omega) _ _⟩
    · obtain ⟨v1, v2, v3, v4⟩ := f_bad hg
      rw [v1, v2, v3, v4, hfe]
      have hcase : ok = false ∨ (ok = true ∧ ∃ h2 : en < s.size, ((s[en].toNat : Int) == 47) = false) := by
        cases ok
        · exact Or.inl rfl
        · right
          have h2 : en < s.size := Decidable.byContradiction fun h => hg ⟨hfo, by rw [hfe, hlen]; exact h⟩
          refine ⟨rfl, h2, ?_⟩
          rw [beq_eq_false_iff_ne, bs_at s en h2]
          intro hc
          exact hsl ⟨hok, by rw [hen, hlen]; exact h2, by rw [hen]; omega⟩
      clear hsl hg hlen hfe hfo v1 v2 v3 v4 hfit F1 hok h1L hen
      rcases hcase with rfl | ⟨rfl, h2, hb⟩
      · clear hle
        go_enter Tryz.func6, Tryz.ntmps6
        go_wp2_with fail
        generalize (w.alloc (.cells #[.bool false, .slice none 0 0, .bool false, .slice none 0 0] 35)).alloc (.cells #[.int .i64 0, .int .i64 0] 28) = W0 at *
        refine (HOf.out W0).mono ?_
        rintro e u0 ⟨b0, a0, n0, c0, rfl, J0, l0, hx0⟩
        have hq0 := hx0.trans (ext_alloc u0 (.cells #[.bool false, .slice none 0 0, .bool b0, .slice a0 n0 c0] 35))
        have bN := fzbx_new u0 false none 0 0 b0 a0 n0 c0
        have J1 := Lib.hid (J0.ext (ext_alloc u0 (.cells #[.bool false, .slice none 0 0, .bool b0, .slice a0 n0 c0] 35)))
        have lN : w.heap.size + 1 < u0.heap.size := Nat.lt_of_lt_of_le bF.lt hx0.size
        have bR := bR.ext hq0; have bF := bF.ext hq0
        have HE1 := Lib.hid (hE.trans hq0)
        have LN := Lib.hid lN
        clear J0 hx0 hq0 hE lN
        go_wp2_with fail
        generalize u0.alloc (.cells #[.bool false, .slice none 0 0, .bool b0, .slice a0 n0 c0] 35) = W1 at *
        generalize u0.heap.size = N at *
        refine (Hword.out W1).mono ?_
        rintro e w1 ⟨rfl, rfl⟩
        have lN := LN.out
        have d0 := bN.c0; have d1 := bN.c1; have d2 := bN.c2; have d3 := bN.c3
        have k0 := bR.c0; have k1 := bR.c1; have k2 := bR.c2; have k3 := bR.c3; have f0 := bR.f 0; have f1 := bR.f 1; have f2 := bR.f 2; have f3 := bR.f 3
        have k4 := bF.c0; have k5 := bF.c1; have f4 := bF.f0; have f5 := bF.f1
        go_wp2_with fail
        exact bodyPost_ret (v := .tuple #[.agg #[.bool false, .slice none 0 0, .bool b0, .slice a0 n0 c0], .agg #[.int .i64 1, .int .i64 (en : Int)]]) (by simp [results, Tryz.results6, go_sem, k0, k1, k2, k3, k4, k5]) rfl ⟨false, none, 0, 0, b0, a0, n0, c0, rfl, IsZ.zero _, (J1.out).put6 bR bF (by omega) _ _ _ _ _ _, by omega, by omega, (((HE1.out).put2 (by omega) _ _).put2 (by omega) _ _).put2 (by omega) _ _⟩
      · have hli : (en : Int) < (s.size : Int) := by omega
        clear hle
        go_enter Tryz.func6, Tryz.ntmps6
        go_wp2_with fail
        generalize (w.alloc (.cells #[.bool false, .slice none 0 0, .bool false, .slice none 0 0] 35)).alloc (.cells #[.int .i64 0, .int .i64 0] 28) = W0 at *
        refine (HOf.out W0).mono ?_
        rintro e u0 ⟨b0, a0, n0, c0, rfl, J0, l0, hx0⟩
        have hq0 := hx0.trans (ext_alloc u0 (.cells #[.bool false, .slice none 0 0, .bool b0, .slice a0 n0 c0] 35))
        have bN := fzbx_new u0 false none 0 0 b0 a0 n0 c0
        have J1 := Lib.hid (J0.ext (ext_alloc u0 (.cells #[.bool false, .slice none 0 0, .bool b0, .slice a0 n0 c0] 35)))
        have lN : w.heap.size + 1 < u0.heap.size := Nat.lt_of_lt_of_le bF.lt hx0.size
        have bR := bR.ext hq0; have bF := bF.ext hq0
        have HE1 := Lib.hid (hE.trans hq0)
        have LN := Lib.hid lN
        clear J0 hx0 hq0 hE lN
        go_wp2_with fail
        generalize u0.alloc (.cells #[.bool false, .slice none 0 0, .bool b0, .slice a0 n0 c0] 35) = W1 at *
        generalize u0.heap.size = N at *
        refine (Hword.out W1).mono ?_
        rintro e w1 ⟨rfl, rfl⟩
        have lN := LN.out
        have d0 := bN.c0; have d1 := bN.c1; have d2 := bN.c2; have d3 := bN.c3
        have k0 := bR.c0; have k1 := bR.c1; have k2 := bR.c2; have k3 := bR.c3; have f0 := bR.f 0; have f1 := bR.f 1; have f2 := bR.f 2; have f3 := bR.f 3
        have k4 := bF.c0; have k5 := bF.c1; have f4 := bF.f0; have f5 := bF.f1
        go_wp2_with fail
        exact bodyPost_ret (v := .tuple #[.agg #[.bool false, .slice none 0 0, .bool b0, .slice a0 n0 c0], .agg #[.int .i64 1, .int .i64 (en : Int)]]) (by simp [results, Tryz.results6, go_sem, k0, k1, k2, k3, k4, k5]) rfl ⟨false, none, 0, 0, b0, a0, n0, c0, rfl, IsZ.zero _, (J1.out).put6 bR bF (by omega) _ _ _ _ _ _, by omega, by omega, (((HE1.out).put2 (by omega) _ _).put2 (by omega) _ _).put2 (by omega) _ _⟩

end Go.Proofs.YtdiojbgbeeojkaaGreatDoor
