/-
  Reading fractions: ParseFrac.
-/
import Derived.Test.YtdiojbgbeeojkaaGreatDoorMFqD

namespace Go.Proofs.YtdiojbgbeeojkaaGreatDoor
open Go.RowKit

/-- What is read of a text: the fraction's parts, the fault. -/
def fP (l : List Nat) : Int := if fgood l then (if fsl l then (if flg l ∨ ffm l then 0 else pz (fab l)) else pz l) else 0
def fQ (l : List Nat) : Int := if fgood l ∧ fsl l ∧ ¬ flg l ∧ ¬ ffm l then pz (fbe l) else 1
def fcode (l : List Nat) : Int := if fgood l then (if fsl l then (if flg l then 2 else if ffm l then 3 else 0) else ((pcode l : Nat) : Int)) else 1
def fat (l : List Nat) : Int := if fgood l then (if fsl l then 0 else ((pat l : Nat) : Int)) else ((fend l : Nat) : Int)

theorem f_bad {l : List Nat} (h : ¬ fgood l) : fP l = 0 ∧ fQ l = 1 ∧ fcode l = 1 ∧ fat l = ((fend l : Nat) : Int) := by
  unfold fP fQ fcode fat
  rw [if_neg h, if_neg (fun x => h x.1), if_neg h, if_neg h]
  exact ⟨rfl, rfl, rfl, rfl⟩
theorem f_whole {l : List Nat} (h : fgood l) (hs : ¬ fsl l) : fP l = pz l ∧ fQ l = 1 ∧ fcode l = ((pcode l : Nat) : Int) ∧ fat l = ((pat l : Nat) : Int) := by
  unfold fP fQ fcode fat
  rw [if_pos h, if_neg hs, if_neg (fun x => hs x.2.1), if_pos h, if_neg hs, if_pos h, if_neg hs]
  exact ⟨rfl, rfl, rfl, rfl⟩
theorem f_long {l : List Nat} (h : fgood l) (hs : fsl l) (hl : flg l) : fP l = 0 ∧ fQ l = 1 ∧ fcode l = 2 ∧ fat l = 0 := by
  unfold fP fQ fcode fat
  rw [if_pos h, if_pos hs, if_pos (Or.inl hl), if_neg (fun x => x.2.2.1 hl), if_pos h, if_pos hs, if_pos hl, if_pos h, if_pos hs]
  exact ⟨rfl, rfl, rfl, rfl⟩
theorem f_form {l : List Nat} (h : fgood l) (hs : fsl l) (hl : ¬ flg l) (hf : ffm l) : fP l = 0 ∧ fQ l = 1 ∧ fcode l = 3 ∧ fat l = 0 := by
  unfold fP fQ fcode fat
  rw [if_pos h, if_pos hs, if_pos (Or.inr hf), if_neg (fun x => x.2.2.2 hf), if_pos h, if_pos hs, if_neg hl, if_pos hf, if_pos h, if_pos hs]
  exact ⟨rfl, rfl, rfl, rfl⟩
theorem f_fine {l : List Nat} (h : fgood l) (hs : fsl l) (hl : ¬ flg l) (hf : ¬ ffm l) : fP l = pz (fab l) ∧ fQ l = pz (fbe l) ∧ fcode l = 0 ∧ fat l = 0 := by
  unfold fP fQ fcode fat
  rw [if_pos h, if_pos hs, if_neg (fun x => x.elim hl hf), if_pos ⟨h, hs, hl, hf⟩, if_pos h, if_pos hs, if_neg hl, if_neg hf, if_pos h, if_pos hs]
  exact ⟨rfl, rfl, rfl, rfl⟩
theorem f_lim (l : List Nat) : (fP l).natAbs < Lim ∧ (fQ l).natAbs < Lim ∧ 0 < fQ l := by
  have h1 : 1 < Lim := Nat.lt_of_lt_of_le (by decide) (lim_le 1 (by decide))
  by_cases h : fgood l
  · by_cases hs : fsl l
    · by_cases hl : flg l
      · obtain ⟨a, b, _, _⟩ := f_long h hs hl
        rw [a, b]; exact ⟨lim_pos, h1, by omega⟩
      · by_cases hf : ffm l
        · obtain ⟨a, b, _, _⟩ := f_form h hs hl hf
          rw [a, b]; exact ⟨lim_pos, h1, by omega⟩
        · obtain ⟨a, b, _, _⟩ := f_fine h hs hl hf
          rw [a, b]
          exact ⟨pz_lt _, pz_lt _, (sides hs h hl).2.2.1⟩
    · obtain ⟨a, b, _, _⟩ := f_whole h hs
      rw [a, b]; exact ⟨pz_lt _, h1, by omega⟩
  · obtain ⟨a, b, _, _⟩ := f_bad h
    rw [a, b]; exact ⟨lim_pos, h1, by omega⟩

theorem cmp_one {g : Int} : cmp3 g 1 = 0 ↔ g = 1 := by
  unfold cmp3
  by_cases h1 : g < 1
  · rw [if_pos h1]; omega
  · rw [if_neg h1]
    by_cases h2 : 1 < g
    · rw [if_pos h2]; omega
    · rw [if_neg h2]; omega

theorem bs_of_list {s : ByteArray} {l : List UInt8} (h : s.toList = l) : bs s = l.map UInt8.toNat := by
  rw [ByteArray.toList_eq] at h
  unfold bs
  rw [h]
theorem bs_list {s : ByteArray} {l : List UInt8} (h : bs s = l.map UInt8.toNat) : s.toList = l := by
  have : s = ⟨l.toArray⟩ := bs_inj (by rw [h]; unfold bs; simp)
  rw [this, ByteArray.toList_mk]

set_option maxHeartbeats 4000000 in
set_option maxRecDepth 100000 in
theorem ParseFrac_any (s : ByteArray) (w : World) (hs : s.size ≤ 9223372036854775807) (K : Nat) (hK : K ≤ 4194304) (hK1 : 1 ≤ K) (hfit : ∀ z : Int, z.natAbs < Lim → Fit K z) (hbr : Bru w) :
    Calls Tryz.prog 5 #[.string s] w (QRetG w (fP (bs s)) (fQ (bs s)) (fcode (bs s)) (fat (bs s))) := by
  have Hscan := hid (fun wx => scanFrac_any s wx hs)
  have Hbr := hid hbr
  have F1 := hid (hfit 1 (Nat.lt_of_lt_of_le (by decide) (lim_le 1 (by decide))))
  have hlen := bs_length s
  have hle := scanN_le (bs s)
  rw [hlen] at hle
  have hE : Ext w ((w.alloc (.cells #[.int .i64 0, .slice none 0 0, .int .i64 0, .slice none 0 0] 26)).alloc (.cells #[.int .i64 0, .int .i64 0] 28)) := (Ext.alloc w (.cells #[.int .i64 0, .slice none 0 0, .int .i64 0, .slice none 0 0] 26)).then (.cells #[.int .i64 0, .int .i64 0] 28)
  have qr : QRes ((w.alloc (.cells #[.int .i64 0, .slice none 0 0, .int .i64 0, .slice none 0 0] 26)).alloc (.cells #[.int .i64 0, .int .i64 0] 28)) w.heap.size := by
    have q : QRes (w.alloc (.cells #[.int .i64 0, .slice none 0 0, .int .i64 0, .slice none 0 0] 26)) w.heap.size := ⟨heap_alloc_new w _⟩
    exact q.ext (Ext.alloc _ _)
  have fr : FRes ((w.alloc (.cells #[.int .i64 0, .slice none 0 0, .int .i64 0, .slice none 0 0] 26)).alloc (.cells #[.int .i64 0, .int .i64 0] 28)) (w.heap.size + 1) := by
    have := heap_alloc_new (w.alloc (.cells #[.int .i64 0, .slice none 0 0, .int .i64 0, .slice none 0 0] 26)) (.cells #[.int .i64 0, .int .i64 0] 28)
    exact ⟨by simp, by simpa using this⟩
  by_cases hg : fgood (bs s)
  · by_cases hsl : fsl (bs s)
    · -- a bar
      have hlt : (scanN (bs s)).1 < s.size := by have := hsl.2.1; rw [hlen] at this; exact this
      obtain ⟨q1, q2, q3, q4⟩ := fbe_scan hsl hg
      have hfe : fend (bs s) = s.size := by
        have h1 := hg.2
        unfold fend at h1 ⊢
        rw [if_pos hsl] at h1 ⊢
        have h3 : (fbe (bs s)).length = s.size - ((scanN (bs s)).1 + 1) := by unfold fbe; rw [List.length_drop, hlen]
        have h4 : spos ((bs s).drop ((scanN (bs s)).1 + 1)) = (fbe (bs s)).length := q3
        rw [h4, h3]; omega
      have hfo : fokk (bs s) = true := hg.1
      have hfab := fab_scan hsl
      have hx1 : bs (s.extract 0 (scanN (bs s)).1) = fab (bs s) := by rw [bs_extract]; unfold fab; simp
      have hx2 : bs (s.extract ((scanN (bs s)).1 + 1) s.size) = fbe (bs s) := by
        rw [bs_extract, List.take_of_length_le]
        · rfl
        · rw [List.length_drop, hlen]; omega
      have hz1 : (s.extract 0 (scanN (bs s)).1).size ≤ 9223372036854775807 := by rw [← bs_length, hx1]; unfold fab; rw [List.length_take, hlen]; omega
      have hz2 : (s.extract ((scanN (bs s)).1 + 1) s.size).size ≤ 9223372036854775807 := by rw [← bs_length, hx2]; unfold fbe; rw [List.length_drop, hlen]; omega
      have Hl1 := hid (fun wx => tooLong_any (s.extract 0 (scanN (bs s)).1) wx hz1)
      have Hl2 := hid (fun wx => tooLong_any (s.extract ((scanN (bs s)).1 + 1) s.size) wx hz2)
      have e1 : (s.extract 0 (scanN (bs s)).1).size = (fab (bs s)).length := by rw [← bs_length, hx1]
      have e2 : (s.extract ((scanN (bs s)).1 + 1) s.size).size = (fbe (bs s)).length := by rw [← bs_length, hx2]
      rw [e1, hx1] at Hl1
      rw [e2, hx2] at Hl2
      rw [hfe, hfo] at Hscan
      have hne : (((scanN (bs s)).1 : Int) == (s.size : Int)) = false := by rw [beq_eq_false_iff_ne]; omega
      have hgi : ((scanN (bs s)).1 : Int) + 1 ≤ (s.size : Int) := by omega
      have hli : ((scanN (bs s)).1 : Int) ≤ (s.size : Int) := by omega
      have hss : ¬ (s.size : Int) < (s.size : Int) := by omega
      by_cases hlg : flg (bs s)
      · obtain ⟨v1, v2, v3, v4⟩ := f_long hg hsl hlg
        rw [v1, v2, v3, v4]
        have hcase : decide (1000 < (fab (bs s)).length - sgl (fab (bs s))) = true ∨ (decide (1000 < (fab (bs s)).length - sgl (fab (bs s))) = false ∧ decide (1000 < (fbe (bs s)).length - sgl (fbe (bs s))) = true) := by
          by_cases h1 : 1000 < (fab (bs s)).length - sgl (fab (bs s))
          · exact Or.inl (decide_eq_true h1)
          · exact Or.inr ⟨decide_eq_false h1, decide_eq_true (hlg.resolve_left h1)⟩
        generalize (scanN (bs s)).1 = en at *
        generalize decide (1000 < (fab (bs s)).length - sgl (fab (bs s))) = o1 at *
        generalize decide (1000 < (fbe (bs s)).length - sgl (fbe (bs s))) = o2 at *
        clear hsl hg hlen hle hfe hfo hfab hx1 hx2 hz1 hz2 e1 e2 q1 q2 q3 q4 hlg v1 v2 v3 v4 hlt hfit hbr F1
        rcases hcase with rfl | ⟨rfl, rfl⟩
        all_goals
          go_enter Tryz.func5, Tryz.ntmps5
          go_wp2_with fail
          generalize (w.alloc (.cells #[.int .i64 0, .slice none 0 0, .int .i64 0, .slice none 0 0] 26)).alloc (.cells #[.int .i64 0, .int .i64 0] 28) = W0 at *
          refine (Hscan.out _).mono ?_
          rintro e w1 ⟨rfl, rfl⟩
          go_wp2_with fail
          go_region
          have hEd : Ext w W0.drew := Below.drew hE
          have qr := qr.ext (Below.drew (Ext.refl W0)); have fr := fr.ext (Below.drew (Ext.refl W0))
          generalize W0.drew = W1 at *
          have k0 := qr.c0; have k1 := qr.c1; have k2 := qr.c2; have k3 := qr.c3; have f0 := qr.f0 0; have f1 := qr.f0 1; have f2 := qr.f0 2; have f3 := qr.f0 3; have k4 := fr.c0; have k5 := fr.c1; have f4 := fr.f0; have f5 := fr.f1
          go_wp2_with fail
          refine (Hl1.out _).mono ?_
          rintro e w1 ⟨rfl, rfl⟩
          go_wp2_with fail
          try (refine (Hl2.out _).mono ?_; rintro e w1 ⟨rfl, rfl⟩; go_wp2_with fail)
          exact bodyPost_ret (v := .tuple #[.agg #[.int .i64 0, .slice none 0 0, .int .i64 0, .slice none 0 0], .agg #[.int .i64 2, .int .i64 0]]) (by simp [results, Tryz.results5, go_sem, k0, k1, k2, k3, k4, k5]) rfl ⟨0, none, 0, 0, 0, none, 0, 0, rfl, IsFr.zero _, ((hEd.put2 (by omega) _ _).put2 (by omega) _ _).put2 (by omega) _ _⟩
      · obtain ⟨t1, t2, hbp, hb1⟩ := sides hsl hg hlg
        have o1 : decide (1000 < (fab (bs s)).length - sgl (fab (bs s))) = false := decide_eq_false fun h => hlg (Or.inl h)
        have o2 : decide (1000 < (fbe (bs s)).length - sgl (fbe (bs s))) = false := decide_eq_false fun h => hlg (Or.inr h)
        rw [o1] at Hl1; rw [o2] at Hl2
        have c1 := (code_of hfab (of_decide_eq_false o1)).2; have c2 := (code_of q1 (of_decide_eq_false o2)).2
        have Hr1 := hid (fun wx => readNumber_any (s.extract 0 (scanN (bs s)).1) wx (by rw [hx1]; have := of_decide_eq_false o1; omega) (by rw [hx1]; exact allD_of_scan _ (by rw [hfab]) (by rw [hfab]; simp)))
        have Hr2 := hid (fun wx => readNumber_any (s.extract ((scanN (bs s)).1 + 1) s.size) wx (by rw [hx2]; have := of_decide_eq_false o2; omega) (by rw [hx2]; exact allD_of_scan _ (by rw [q1]) (by rw [q1]; simp)))
        rw [hx1, ← c1] at Hr1
        rw [hx2, ← c2] at Hr2
        have Fa := hid (hfit _ (pz_lt (fab (bs s)))); have Fb := hid (hfit _ (pz_lt (fbe (bs s))))
        have hone : fbe (bs s) = [49] ↔ (s.extract ((scanN (bs s)).1 + 1) s.size).toList = [49] := by
          constructor
          · intro h; exact bs_list (l := [49]) (by rw [hx2, h]; rfl)
          · intro h
            rw [← hx2]
            exact (bs_of_list h).trans rfl
        have HOf := hid (fun wx => Of_any 1 (by omega) (by omega) wx)
        by_cases hf : ffm (bs s)
        · obtain ⟨v1, v2, v3, v4⟩ := f_form hg hsl hlg hf
          rw [v1, v2, v3, v4]
          unfold ffm at hf
          rw [hone] at hf
          generalize (scanN (bs s)).1 = en at *
          generalize pz (fab (bs s)) = a at *
          generalize pz (fbe (bs s)) = b at *
          obtain ⟨k, hk⟩ : ∃ k, cmp3 ((Nat.gcd a.natAbs b.natAbs : Nat) : Int) 1 = k := ⟨_, rfl⟩
          have Ek := hid hk
          have Fg : Hid (Fit K ((Nat.gcd a.natAbs b.natAbs : Nat) : Int)) := by
            show Int.natAbs _ < _
            rw [Int.natAbs_natCast]
            exact Nat.lt_of_le_of_lt (Nat.gcd_le_right _ (by omega)) Fb.out
          have hcase : ((s.extract (en + 1) s.size).toList == [49]) = true ∨ (((s.extract (en + 1) s.size).toList == [49]) = false ∧ (k == 0) = false) := by
            by_cases h1 : (s.extract (en + 1) s.size).toList = [49]
            · exact Or.inl (by rw [beq_iff_eq]; exact h1)
            · refine Or.inr ⟨by rw [beq_eq_false_iff_ne]; exact h1, ?_⟩
              rw [beq_eq_false_iff_ne, ← hk]
              intro h2
              have := cmp_one.1 h2
              exact hf.resolve_left h1 (by omega)
          clear hsl hg hlen hle hfe hfo hfab hx1 hx2 hz1 hz2 e1 e2 q1 q2 q3 q4 hlg v1 v2 v3 v4 hlt hfit hbr hone hf t1 t2 hbp hb1 o1 o2 c1 c2 hk
          rcases hcase with hc | ⟨hc, hk0⟩
          · go_enter Tryz.func5, Tryz.ntmps5
            go_wp2_with fail
            generalize (w.alloc (.cells #[.int .i64 0, .slice none 0 0, .int .i64 0, .slice none 0 0] 26)).alloc (.cells #[.int .i64 0, .int .i64 0] 28) = W0 at *
            refine (Hscan.out _).mono ?_
            rintro e w1 ⟨rfl, rfl⟩
            go_wp2_with fail
            go_region
            have hEd : Ext w W0.drew := Below.drew hE
            have qr := qr.ext (Below.drew (Ext.refl W0)); have fr := fr.ext (Below.drew (Ext.refl W0))
            generalize W0.drew = W1 at *
            go_wp2_with fail
            refine (Hl1.out _).mono ?_
            rintro e w1 ⟨rfl, rfl⟩
            go_wp2_with fail
            refine (Hl2.out _).mono ?_
            rintro e w1 ⟨rfl, rfl⟩
            go_wp2_with fail
            refine (Hr1.out _).mono ?_
            rintro e u1 ⟨s1, a1, n1, c1, rfl, I1, hx1⟩
            go_wp2_with fail
            refine (Hr2.out _).mono ?_
            rintro e u2 ⟨s2, a2, n2, c2, rfl, I2, hx2⟩
            have hq := (Ext.alloc u2 (.cells #[.int .i64 s1, .slice a1 n1 c1] 24)).then (.cells #[.int .i64 s2, .slice a2 n2 c2] 24)
            have I1 := I1.ext (hx2.trans hq); have I2 := I2.ext hq
            have HE2 := hid (hEd.trans (hx1.trans (hx2.trans hq)))
            have qr := qr.ext (hx1.trans (hx2.trans hq)); have fr := fr.ext (hx1.trans (hx2.trans hq))
            clear hx1 hx2 hq hE hEd
            have k0 := qr.c0; have k1 := qr.c1; have k2 := qr.c2; have k3 := qr.c3; have f0 := qr.f0 0; have f1 := qr.f0 1; have f2 := qr.f0 2; have f3 := qr.f0 3; have k4 := fr.c0; have k5 := fr.c1; have f4 := fr.f0; have f5 := fr.f1
            go_wp2_with fail
            exact bodyPost_ret (v := .tuple #[.agg #[.int .i64 0, .slice none 0 0, .int .i64 0, .slice none 0 0], .agg #[.int .i64 3, .int .i64 0]]) (by simp [results, Tryz.results5, go_sem, k0, k1, k2, k3, k4, k5]) rfl ⟨0, none, 0, 0, 0, none, 0, 0, rfl, IsFr.zero _, ((HE2.out.put2 (by omega) _ _).put2 (by omega) _ _).put2 (by omega) _ _⟩
          · go_enter Tryz.func5, Tryz.ntmps5
            go_wp2_with fail
            generalize (w.alloc (.cells #[.int .i64 0, .slice none 0 0, .int .i64 0, .slice none 0 0] 26)).alloc (.cells #[.int .i64 0, .int .i64 0] 28) = W0 at *
            refine (Hscan.out _).mono ?_
            rintro e w1 ⟨rfl, rfl⟩
            go_wp2_with fail
            go_region
            have hEd : Ext w W0.drew := Below.drew hE
            have qr := qr.ext (Below.drew (Ext.refl W0)); have fr := fr.ext (Below.drew (Ext.refl W0))
            generalize W0.drew = W1 at *
            go_wp2_with fail
            refine (Hl1.out _).mono ?_
            rintro e w1 ⟨rfl, rfl⟩
            go_wp2_with fail
            refine (Hl2.out _).mono ?_
            rintro e w1 ⟨rfl, rfl⟩
            go_wp2_with fail
            refine (Hr1.out _).mono ?_
            rintro e u1 ⟨s1, a1, n1, c1, rfl, I1, hx1⟩
            go_wp2_with fail
            refine (Hr2.out _).mono ?_
            rintro e u2 ⟨s2, a2, n2, c2, rfl, I2, hx2⟩
            have hq := (Ext.alloc u2 (.cells #[.int .i64 s1, .slice a1 n1 c1] 24)).then (.cells #[.int .i64 s2, .slice a2 n2 c2] 24)
            have I1 := I1.ext (hx2.trans hq); have I2 := I2.ext hq
            have HE2 := hid (hEd.trans (hx1.trans (hx2.trans hq)))
            have qr := qr.ext (hx1.trans (hx2.trans hq)); have fr := fr.ext (hx1.trans (hx2.trans hq))
            clear hx1 hx2 hq hE hEd
            go_wp2_with fail
            generalize (u2.alloc (.cells #[.int .i64 s1, .slice a1 n1 c1] 24)).alloc (.cells #[.int .i64 s2, .slice a2 n2 c2] 24) = W2 at *
            refine (Gcd_all s1 s2 a1 a2 n1 c1 n2 c2 a b W2 I1 I2 K hK hK1 Fa.out Fb.out (bru_ext Hbr.out HE2.out)).mono ?_
            rintro e v1 ⟨s3, a3, n3, c3, rfl, I3, hx3⟩
            go_wp2_with fail
            refine (HOf.out _).mono ?_
            rintro e v2 ⟨rfl, I4, hx4⟩
            go_wp2_with fail
            refine (Cmp_is k (I3.ext hx4) I4 K hK Fg.out F1.out Ek.out).mono ?_
            rintro e v3 ⟨rfl, hx5⟩
            have h2r : Ext W2 v3 := hx3.trans (hx4.trans hx5)
            have qr := qr.ext h2r; have fr := fr.ext h2r
            have k0 := qr.c0; have k1 := qr.c1; have k2 := qr.c2; have k3 := qr.c3; have f0 := qr.f0 0; have f1 := qr.f0 1; have f2 := qr.f0 2; have f3 := qr.f0 3; have k4 := fr.c0; have k5 := fr.c1; have f4 := fr.f0; have f5 := fr.f1
            go_wp2_with fail
            exact bodyPost_ret (v := .tuple #[.agg #[.int .i64 0, .slice none 0 0, .int .i64 0, .slice none 0 0], .agg #[.int .i64 3, .int .i64 0]]) (by simp [results, Tryz.results5, go_sem, k0, k1, k2, k3, k4, k5]) rfl ⟨0, none, 0, 0, 0, none, 0, 0, rfl, IsFr.zero _, (((HE2.out.trans h2r).put2 (by omega) _ _).put2 (by omega) _ _).put2 (by omega) _ _⟩
        · obtain ⟨v1, v2, v3, v4⟩ := f_fine hg hsl hlg hf
          rw [v1, v2, v3, v4]
          unfold ffm at hf
          have hbn : pz (fbe (bs s)) ≠ 1 := fun h => hf (Or.inl (hb1.2 h))
          have hc : ((s.extract ((scanN (bs s)).1 + 1) s.size).toList == [49]) = false := by rw [beq_eq_false_iff_ne]; exact fun h => hf (Or.inl (hone.2 h))
          have hgc : Nat.gcd (pz (fab (bs s))).natAbs (pz (fbe (bs s))).natAbs = 1 := Decidable.byContradiction fun h => hf (Or.inr h)
          generalize (scanN (bs s)).1 = en at *
          generalize pz (fab (bs s)) = a at *
          generalize pz (fbe (bs s)) = b at *
          have ha0 : a ≠ 0 := by
            intro h
            rw [h] at hgc
            simp at hgc
            omega
          have Ha0 := hid ha0
          have Hgc : Hid (((Nat.gcd a.natAbs b.natAbs : Nat) : Int) = 1) := by show _ = _; rw [hgc]; rfl
          have Ek : Hid (cmp3 (1 : Int) 1 = 0) := by show _ = _; decide
          clear hsl hg hlen hle hfe hfo hfab hx1 hx2 hz1 hz2 e1 e2 q1 q2 q3 q4 hlg v1 v2 v3 v4 hlt hfit hbr hone hf t1 t2 hbp hb1 o1 o2 c1 c2 hbn hgc ha0
          go_enter Tryz.func5, Tryz.ntmps5
          go_wp2_with fail
          generalize (w.alloc (.cells #[.int .i64 0, .slice none 0 0, .int .i64 0, .slice none 0 0] 26)).alloc (.cells #[.int .i64 0, .int .i64 0] 28) = W0 at *
          refine (Hscan.out _).mono ?_
          rintro e w1 ⟨rfl, rfl⟩
          go_wp2_with fail
          go_region
          have hEd : Ext w W0.drew := Below.drew hE
          have qr := qr.ext (Below.drew (Ext.refl W0)); have fr := fr.ext (Below.drew (Ext.refl W0))
          generalize W0.drew = W1 at *
          go_wp2_with fail
          refine (Hl1.out _).mono ?_
          rintro e w1 ⟨rfl, rfl⟩
          go_wp2_with fail
          refine (Hl2.out _).mono ?_
          rintro e w1 ⟨rfl, rfl⟩
          go_wp2_with fail
          refine (Hr1.out _).mono ?_
          rintro e u1 ⟨s1, a1, n1, c1, rfl, I1, hx1⟩
          go_wp2_with fail
          refine (Hr2.out _).mono ?_
          rintro e u2 ⟨s2, a2, n2, c2, rfl, I2, hx2⟩
          have hq := (Ext.alloc u2 (.cells #[.int .i64 s1, .slice a1 n1 c1] 24)).then (.cells #[.int .i64 s2, .slice a2 n2 c2] 24)
          have b1 := (box_new u2 s1 a1 n1 c1).ext (Ext.alloc _ (.cells #[.int .i64 s2, .slice a2 n2 c2] 24))
          have b2 := box_new (u2.alloc (.cells #[.int .i64 s1, .slice a1 n1 c1] 24)) s2 a2 n2 c2
          rw [show (u2.alloc (.cells #[.int .i64 s1, .slice a1 n1 c1] 24)).heap.size = u2.heap.size + 1 from by simp] at b2
          have I1 := I1.ext (hx2.trans hq); have I2 := I2.ext hq
          have HE2 := hid (hEd.trans (hx1.trans (hx2.trans hq)))
          have qr := qr.ext (hx1.trans (hx2.trans hq)); have fr := fr.ext (hx1.trans (hx2.trans hq))
          clear hx1 hx2 hq hE hEd
          go_wp2_with fail
          generalize (u2.alloc (.cells #[.int .i64 s1, .slice a1 n1 c1] 24)).alloc (.cells #[.int .i64 s2, .slice a2 n2 c2] 24) = W2 at *
          generalize u2.heap.size = A at *
          refine (Gcd_all s1 s2 a1 a2 n1 c1 n2 c2 a b W2 I1 I2 K hK hK1 Fa.out Fb.out (bru_ext Hbr.out HE2.out)).mono ?_
          rintro e v1 ⟨s3, a3, n3, c3, rfl, I3, hx3⟩
          go_wp2_with fail
          refine (HOf.out _).mono ?_
          rintro e v2 ⟨rfl, I4, hx4⟩
          go_wp2_with fail
          refine (Cmp_is 0 ((I3.cast Hgc.out).ext hx4) I4 K hK F1.out F1.out Ek.out).mono ?_
          rintro e v3 ⟨rfl, hx5⟩
          have h2r : Ext W2 v3 := hx3.trans (hx4.trans hx5)
          have qr := qr.ext h2r; have fr := fr.ext h2r
          have b1 := b1.ext h2r; have b2 := b2.ext h2r
          have d0 := b1.c0; have d1 := b1.c1; have d2 := b2.c0; have d3 := b2.c1
          have k0 := qr.c0; have k1 := qr.c1; have k2 := qr.c2; have k3 := qr.c3; have f0 := qr.f0 0; have f1 := qr.f0 1; have f2 := qr.f0 2; have f3 := qr.f0 3; have k4 := fr.c0; have k5 := fr.c1; have f4 := fr.f0; have f5 := fr.f1
          have hkk := Keep64.set6 (w := v3) (.i64 k0) (.slice k1) (.i64 k2) (.slice k3) (.i64 k4) (.i64 k5) (notW_i64 s1) (notW_slice a1 n1 c1) (notW_i64 s2) (notW_slice a2 n2 c2) (notW_i64 0) (.int .i64 0)
          have HI : Hid (IsFr v3 s1 a1 n1 c1 s2 a2 n2 c2 a b) := ⟨b, I1.ext h2r, I2.ext h2r, by rw [if_neg Ha0.out]⟩
          have HI9 := hid (HI.out.keep64 hkk)
          clear hkk HI
          go_wp2_with fail
          exact bodyPost_ret (v := .tuple #[.agg #[.int .i64 s1, .slice a1 n1 c1, .int .i64 s2, .slice a2 n2 c2], .agg #[.int .i64 0, .int .i64 0]]) (by simp [results, Tryz.results5, go_sem, k0, k1, k2, k3, k4, k5]) rfl ⟨s1, a1, n1, c1, s2, a2, n2, c2, rfl, HI9.out, (((HE2.out.trans h2r).put2 (by omega) _ _).put2 (by omega) _ _).put2 (by omega) _ _⟩
    · -- none
      obtain ⟨v1, v2, v3, v4⟩ := f_whole hg hsl
      rw [v1, v2, v3, v4]
      have hfe : fend (bs s) = (scanN (bs s)).1 := by unfold fend; rw [if_neg hsl]
      have hfo : fokk (bs s) = true := hg.1
      have hge := hg.2
      rw [hlen, hfe] at hge
      rw [hfe, hfo] at Hscan
      have Hw := hid (fun wx (hx : Ext w wx) => parseWhole_any s wx hs K hK hK1 (hfit _ (pz_lt _)) F1.out (bru_ext hbr hx))
      have hil : ¬ ((scanN (bs s)).1 : Int) < (s.size : Int) := by omega
      have hee : (((scanN (bs s)).1 : Int) == ((scanN (bs s)).1 : Int)) = true := by simp
      generalize (scanN (bs s)).1 = en at *
      generalize ((pcode (bs s) : Nat) : Int) = p at *
      generalize ((pat (bs s) : Nat) : Int) = p' at *
      clear hsl hg hlen hle hfe hfo hge v1 v2 v3 v4 hfit hbr F1
      go_enter Tryz.func5, Tryz.ntmps5
      go_wp2_with fail
      generalize (w.alloc (.cells #[.int .i64 0, .slice none 0 0, .int .i64 0, .slice none 0 0] 26)).alloc (.cells #[.int .i64 0, .int .i64 0] 28) = W0 at *
      refine (Hscan.out _).mono ?_
      rintro e w1 ⟨rfl, rfl⟩
      go_wp2_with fail
      refine (Hw.out W0 hE).mono ?_
      rintro e v ⟨s9, a9, n9, c9, s8, a8, n8, c8, rfl, I9, hx⟩
      have qr := qr.ext hx; have fr := fr.ext hx
      have k0 := qr.c0; have k1 := qr.c1; have k2 := qr.c2; have k3 := qr.c3; have f0 := qr.f0 0; have f1 := qr.f0 1; have f2 := qr.f0 2; have f3 := qr.f0 3; have k4 := fr.c0; have k5 := fr.c1; have f4 := fr.f0; have f5 := fr.f1
      have hkk := Keep64.set6 (w := v) (.i64 k0) (.slice k1) (.i64 k2) (.slice k3) (.i64 k4) (.i64 k5) (notW_i64 s9) (notW_slice a9 n9 c9) (notW_i64 s8) (notW_slice a8 n8 c8) (notW_i64 p) (.int .i64 p')
      have HI9 := hid (I9.keep64 hkk)
      clear hkk I9
      go_wp2_with fail
      exact bodyPost_ret (v := .tuple #[.agg #[.int .i64 s9, .slice a9 n9 c9, .int .i64 s8, .slice a8 n8 c8], .agg #[.int .i64 p, .int .i64 p']]) (by simp [results, Tryz.results5, go_sem, k0, k1, k2, k3, k4, k5]) rfl ⟨s9, a9, n9, c9, s8, a8, n8, c8, rfl, HI9.out, (((hE.trans hx).put2 (by omega) _ _).put2 (by omega) _ _).put2 (by omega) _ _⟩
  · obtain ⟨v1, v2, v3, v4⟩ := f_bad hg
    rw [v1, v2, v3, v4]
    obtain ⟨fe, hfe⟩ : ∃ fe, fend (bs s) = fe := ⟨_, rfl⟩
    obtain ⟨ok, hok⟩ : ∃ ok, fokk (bs s) = ok := ⟨_, rfl⟩
    rw [hfe, hok] at Hscan
    rw [hfe]
    have hcase : ok = false ∨ (ok = true ∧ ((fe : Nat) : Int) < (s.size : Int)) := by
      cases ok
      · exact Or.inl rfl
      · right; refine ⟨rfl, ?_⟩
        have : fe < s.size := Decidable.byContradiction fun h => hg ⟨hok, by rw [hfe, hlen]; exact h⟩
        omega
    clear hg hfe hok hlen hle v1 v2 v3 v4 hfit hbr F1 qr fr hE
    generalize (scanN (bs s)).1 = en at *
    rcases hcase with rfl | ⟨rfl, hil⟩
    all_goals
      go_enter Tryz.func5, Tryz.ntmps5
      go_wp2_with fail
      refine (Hscan.out _).mono ?_
      rintro e w1 ⟨rfl, rfl⟩
      go_wp2_with fail
      exact bodyPost_ret (v := .tuple #[.agg #[.int .i64 0, .slice none 0 0, .int .i64 0, .slice none 0 0], .agg #[.int .i64 1, .int .i64 (fe : Nat)]]) (by simp [results, Tryz.results5, go_sem]) rfl ⟨0, none, 0, 0, 0, none, 0, 0, rfl, IsFr.zero _, (Ext.alloc _ _).then _⟩

end Go.Proofs.YtdiojbgbeeojkaaGreatDoor
