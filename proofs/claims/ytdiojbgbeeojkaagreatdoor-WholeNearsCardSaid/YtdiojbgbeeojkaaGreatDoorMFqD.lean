/-
  Fractions of the program: Sub, Text.
-/
import Derived.Test.YtdiojbgbeeojkaaGreatDoorMFqB
import Derived.Test.YtdiojbgbeeojkaaGreatDoorMNf
import Derived.Test.YtdiojbgbeeojkaaGreatDoorMZR

namespace Go.Proofs.YtdiojbgbeeojkaaGreatDoor
open Go.RowKit

theorem QBx.own2 {W : World} {g : Nat} {s : Int} {a : Option Addr} {n c : Nat} {s' : Int} {a' : Option Addr} {n' c' : Nat} (h : QBx W g s a n c s' a' n' c') (t : Int) (b : Option Addr) (m d : Nat) : QBx ((W.setCell ⟨g, 0, none⟩ (.int .i64 t)).setCell ⟨g, 1, none⟩ (.slice b m d)) g t b m d s' a' n' c' := by
  have h1 := heap_setCell_same W g 0 _ _ (.int .i64 t) h.row
  have h2 := heap_setCell_same (W.setCell ⟨g, 0, none⟩ (.int .i64 t)) g 1 _ _ (.slice b m d) h1
  exact ⟨h2⟩
theorem QRes.only {W W' : World} {g k : Nat} (h : QRes W g) (hO : Only k W W') (hne : g ≠ k) : QRes W' g := ⟨(hO.block _ hne).trans h.row⟩
theorem QBx.only {W W' : World} {g k : Nat} {s : Int} {a : Option Addr} {n c : Nat} {s' : Int} {a' : Option Addr} {n' c' : Nat} (h : QBx W g s a n c s' a' n' c') (hO : Only k W W') (hne : g ≠ k) : QBx W' g s a n c s' a' n' c' := ⟨(hO.block _ hne).trans h.row⟩
theorem IsFr.minus {w : World} {s : Int} {a : Option Addr} {n c : Nat} {s' : Int} {a' : Option Addr} {n' c' : Nat} {t : Int} {b : Option Addr} {m d : Nat} {P Q : Int} (h : IsFr w s a n c s' a' n' c' P Q) (hn : IsInt w t b m d (-P)) : IsFr w t b m d s' a' n' c' (-P) Q := by
  obtain ⟨q, h1, h2, h3⟩ := h
  refine ⟨q, hn, h2, ?_⟩
  rw [h3]
  by_cases hp : P = 0
  · rw [if_pos hp, if_pos (by omega)]
  · rw [if_neg hp, if_neg (by omega)]

set_option maxHeartbeats 2000000 in
set_option maxRecDepth 100000 in
theorem QSub_any (s1 : Int) (a1 : Option Addr) (n1 c1 : Nat) (s1x : Int) (a1x : Option Addr) (n1x c1x : Nat) (s2 : Int) (a2 : Option Addr) (n2 c2 : Nat) (s2x : Int) (a2x : Option Addr) (n2x c2x : Nat) (P Q R S : Int) (w : World) (h1 : IsFr w s1 a1 n1 c1 s1x a1x n1x c1x P Q) (h2 : IsFr w s2 a2 n2 c2 s2x a2x n2x c2x R S) (K : Nat) (hK : K ≤ 4194304) (hK1 : 1 ≤ K) (fP : Fit K P) (fQ : Fit K Q) (fR : Fit K (-R)) (fS : Fit K S) (fX : Fit K (P * S)) (fY : Fit K (-R * Q)) (fZ : Fit K (P * S + -R * Q)) (fT : Fit K (Q * S)) (hne : Q * S ≠ 0) (hbr : Bru w) :
    Calls Tryz.prog 19 #[.agg #[.int .i64 s1, .slice a1 n1 c1, .int .i64 s1x, .slice a1x n1x c1x], .agg #[.int .i64 s2, .slice a2 n2 c2, .int .i64 s2x, .slice a2x n2x c2x]] w (QRet w (nfp (P * S + -R * Q) (Q * S)) (nfq (P * S + -R * Q) (Q * S))) := by
  have HA := hid (fun t b m d wx i1 i2 (hx : Ext w wx) => QAdd_any s1 a1 n1 c1 s1x a1x n1x c1x t b m d s2x a2x n2x c2x P Q (-R) S wx i1 i2 K hK hK1 fP fQ fR fS fX fY fZ fT hne (bru_ext hbr hx))
  clear fP fQ fR fS fX fY fZ fT hne hbr hK hK1
  obtain ⟨r2, i2, i2x, e2⟩ := h2
  have H2x : Hid (IsInt w s2x a2x n2x c2x r2) := i2x
  have Hn := hid (fun wx (hx : Ext w wx) => Neg_any s2 a2 n2 c2 R wx (i2.ext hx))
  have H2 : Hid (IsFr w s2 a2 n2 c2 s2x a2x n2x c2x R S) := ⟨r2, i2, i2x, e2⟩
  have H1 := hid h1
  clear h1 i2 i2x e2
  obtain ⟨p, hp⟩ : ∃ p, nfp (P * S + -R * Q) (Q * S) = p := ⟨_, rfl⟩
  obtain ⟨q, hq⟩ : ∃ q, nfq (P * S + -R * Q) (Q * S) = q := ⟨_, rfl⟩
  rw [hp, hq] at HA
  rw [hp, hq]
  clear hp hq
  have hE : Ext w (((w.alloc (.cells #[.int .i64 s1, .slice a1 n1 c1, .int .i64 s1x, .slice a1x n1x c1x] 26)).alloc (.cells #[.int .i64 s2, .slice a2 n2 c2, .int .i64 s2x, .slice a2x n2x c2x] 26)).alloc (.cells #[.int .i64 0, .slice none 0 0, .int .i64 0, .slice none 0 0] 26)) := ((Ext.alloc w (.cells #[.int .i64 s1, .slice a1 n1 c1, .int .i64 s1x, .slice a1x n1x c1x] 26)).then (.cells #[.int .i64 s2, .slice a2 n2 c2, .int .i64 s2x, .slice a2x n2x c2x] 26)).then (.cells #[.int .i64 0, .slice none 0 0, .int .i64 0, .slice none 0 0] 26)
  have qx := ((qbx_new w s1 a1 n1 c1 s1x a1x n1x c1x).ext (Ext.alloc _ (.cells #[.int .i64 s2, .slice a2 n2 c2, .int .i64 s2x, .slice a2x n2x c2x] 26))).ext (Ext.alloc _ (.cells #[.int .i64 0, .slice none 0 0, .int .i64 0, .slice none 0 0] 26))
  have qy := qbx_new (w.alloc (.cells #[.int .i64 s1, .slice a1 n1 c1, .int .i64 s1x, .slice a1x n1x c1x] 26)) s2 a2 n2 c2 s2x a2x n2x c2x
  rw [show (w.alloc (.cells #[.int .i64 s1, .slice a1 n1 c1, .int .i64 s1x, .slice a1x n1x c1x] 26)).heap.size = w.heap.size + 1 from by simp] at qy
  have qy := qy.ext (Ext.alloc _ (.cells #[.int .i64 0, .slice none 0 0, .int .i64 0, .slice none 0 0] 26))
  have qr : QRes (((w.alloc (.cells #[.int .i64 s1, .slice a1 n1 c1, .int .i64 s1x, .slice a1x n1x c1x] 26)).alloc (.cells #[.int .i64 s2, .slice a2 n2 c2, .int .i64 s2x, .slice a2x n2x c2x] 26)).alloc (.cells #[.int .i64 0, .slice none 0 0, .int .i64 0, .slice none 0 0] 26)) (w.heap.size + 1 + 1) := by
    have := heap_alloc_new ((w.alloc (.cells #[.int .i64 s1, .slice a1 n1 c1, .int .i64 s1x, .slice a1x n1x c1x] 26)).alloc (.cells #[.int .i64 s2, .slice a2 n2 c2, .int .i64 s2x, .slice a2x n2x c2x] 26)) (.cells #[.int .i64 0, .slice none 0 0, .int .i64 0, .slice none 0 0] 26)
    exact ⟨by simpa using this⟩
  go_enter Tryz.func19, Tryz.ntmps19
  go_wp2_with fail
  generalize ((w.alloc (.cells #[.int .i64 s1, .slice a1 n1 c1, .int .i64 s1x, .slice a1x n1x c1x] 26)).alloc (.cells #[.int .i64 s2, .slice a2 n2 c2, .int .i64 s2x, .slice a2x n2x c2x] 26)).alloc (.cells #[.int .i64 0, .slice none 0 0, .int .i64 0, .slice none 0 0] 26) = W0 at *
  refine (Hn.out W0 hE).mono ?_
  rintro e u1 ⟨s5, a5, n5, c5, rfl, I5, hx1⟩
  have qx := qx.ext hx1; have qy := qy.ext hx1; have qr := qr.ext hx1
  have hO : Only (w.heap.size + 1) u1 ((u1.setCell ⟨w.heap.size + 1, 0, none⟩ (.int .i64 s5)).setCell ⟨w.heap.size + 1, 1, none⟩ (.slice a5 n5 c5)) := ((Only.refl _ _).setCell _ _).setCell _ _
  have e0 := qy.c0; have e1 := qy.c1; have f0 := qy.f 0; have f1 := qy.f 1
  have hkk := Keep64.set2 (.i64 e0) (.slice e1) (notW_i64 s5) (.slice a5 n5 c5)
  have x1 := qx.only hO (by omega); have y1 := qy.own2 s5 a5 n5 c5; have r1 := qr.only hO (by omega)
  have E1 := (hE.trans hx1).put2 (g := w.heap.size + 1) (o := 0) (o' := 1) (by omega) (.int .i64 s5) (.slice a5 n5 c5)
  have J1 := hid ((H1.out.ext (hE.trans hx1)).keep64 hkk); have J2 := hid (((H2.out.ext (hE.trans hx1)).minus I5).keep64 hkk)
  have d0 := x1.c0; have d1 := x1.c1; have d2 := x1.c2; have d3 := x1.c3; have d4 := y1.c0; have d5 := y1.c1; have d6 := y1.c2; have d7 := y1.c3
  have Hr1 := hid r1; have HE1 := hid E1
  clear hkk hO qx qy qr x1 y1 r1 I5 E1
  go_wp2_with fail
  generalize (u1.setCell ⟨w.heap.size + 1, 0, none⟩ (.int .i64 s5)).setCell ⟨w.heap.size + 1, 1, none⟩ (.slice a5 n5 c5) = W1 at *
  clear e0 e1 f0 f1
  refine (HA.out s5 a5 n5 c5 W1 J1.out J2.out HE1.out).mono ?_
  rintro e v ⟨s9, a9, n9, c9, s8, a8, n8, c8, rfl, I9, hx⟩
  have R5 := Hr1.out.ext hx
  have k0 := R5.c0; have k1 := R5.c1; have k2 := R5.c2; have k3 := R5.c3; have f0 := R5.f0 0; have f1 := R5.f0 1; have f2 := R5.f0 2; have f3 := R5.f0 3
  have hkk := Keep64.set4 (w := v) (.i64 k0) (.slice k1) (.i64 k2) (.slice k3) (notW_i64 s9) (notW_slice a9 n9 c9) (notW_i64 s8) (.slice a8 n8 c8)
  have HI9 := hid (I9.keep64 hkk)
  clear hkk I9
  go_wp2_with fail
  exact bodyPost_ret (v := .agg #[.int .i64 s9, .slice a9 n9 c9, .int .i64 s8, .slice a8 n8 c8]) (by simp [results, Tryz.results19, go_sem, k0, k1, k2, k3]) rfl ⟨s9, a9, n9, c9, s8, a8, n8, c8, rfl, HI9.out, ((HE1.out.trans hx).put2 (by omega) _ _).put2 (by omega) _ _⟩

theorem itoa_len {K : Nat} {z : Int} (hK1 : 1 ≤ K) (hf : Fit K z) : (Lib.itoa z).length ≤ 64 * K + 1 := by
  have h1 : (Lib.itoa z).length = (txt z).length := by unfold txt; rw [List.length_map]
  have h2 : (txt z).length - sgl (txt z) = (decN z.natAbs).length := by rw [← txt_drop, List.length_drop]
  have h3 := sgl_le (txt z)
  have h4 : z.natAbs < 10 ^ (64 * K) := by
    refine Nat.lt_of_lt_of_le hf ?_
    rw [B64_two, ← Nat.pow_mul]
    exact Nat.pow_le_pow_left (by decide) _
  have h5 := nDigits_le (64 * K) z.natAbs (by omega) h4
  rw [decN_length] at h2
  omega

/-- How a fraction is written. -/
def ftx (P Q : Int) : ByteArray := if Q = 1 then ⟨(Lib.itoa P).toArray⟩ else ⟨(Lib.itoa P).toArray⟩ ++ ⟨#[47]⟩ ++ ⟨(Lib.itoa Q).toArray⟩

set_option maxHeartbeats 2000000 in
set_option maxRecDepth 100000 in
theorem QText_any (s1 : Int) (a1 : Option Addr) (n1 c1 : Nat) (s1x : Int) (a1x : Option Addr) (n1x c1x : Nat) (P Q : Int) (w : World) (h1 : IsFr w s1 a1 n1 c1 s1x a1x n1x c1x P Q) (K : Nat) (hK : K ≤ 100000) (hK1 : 1 ≤ K) (fP : Fit K P) (fQ : Fit K Q) (htab : Ten w) :
    Calls Tryz.prog 8 #[.agg #[.int .i64 s1, .slice a1 n1 c1, .int .i64 s1x, .slice a1x n1x c1x]] w fun e w' => e = .returned (.string (ftx P Q)) ∧ Ext w w' := by
  have FP := hid fP; have FQ := hid fQ; have Htab := hid htab; have H1 := hid h1
  have F1 : Hid (Fit K 1) := by
    show _ < _
    exact Nat.lt_of_lt_of_le (by rw [B64_eq]; decide) (Nat.pow_le_pow_right (n := B64) (by rw [B64_eq]; decide) hK1)
  clear fP fQ htab h1
  obtain ⟨k, hk⟩ : ∃ k, cmp3 Q 1 = k := ⟨_, rfl⟩
  have Ek := hid hk
  have HOf := hid (fun wx => Of_any 1 (by omega) (by omega) wx)
  have hK4 : K ≤ 4194304 := by omega
  go_enter Tryz.func8, Tryz.ntmps8
  go_wp2_with fail
  have hE : Ext w (w.alloc (.cells #[.int .i64 s1, .slice a1 n1 c1, .int .i64 s1x, .slice a1x n1x c1x] 26)) := Ext.alloc w (.cells #[.int .i64 s1, .slice a1 n1 c1, .int .i64 s1x, .slice a1x n1x c1x] 26)
  generalize w.alloc (.cells #[.int .i64 s1, .slice a1 n1 c1, .int .i64 s1x, .slice a1x n1x c1x] 26) = W0 at *
  refine (Parts_fr s1 s1x a1 a1x n1 c1 n1x c1x P Q W0 (H1.out.ext hE)).mono ?_
  rintro e u1 ⟨s3, a3, n3, c3, s4, a4, n4, c4, rfl, I3, I4, hx1⟩
  have hq1 := (Ext.alloc u1 (.cells #[.int .i64 s3, .slice a3 n3 c3] 24)).then (.cells #[.int .i64 s4, .slice a4 n4 c4] 24)
  have b3 := (box_new u1 s3 a3 n3 c3).ext (Ext.alloc _ (.cells #[.int .i64 s4, .slice a4 n4 c4] 24))
  have b4 := box_new (u1.alloc (.cells #[.int .i64 s3, .slice a3 n3 c3] 24)) s4 a4 n4 c4
  rw [show (u1.alloc (.cells #[.int .i64 s3, .slice a3 n3 c3] 24)).heap.size = u1.heap.size + 1 from by simp] at b4
  have IA := I3.ext hq1; have IB := I4.ext hq1
  have HE1 := hid (hE.trans (hx1.trans hq1))
  have hlA := IA.len FP.out; have hlB := IB.len FQ.out
  clear I3 I4 hq1 hx1
  go_wp2_with fail
  generalize (u1.alloc (.cells #[.int .i64 s3, .slice a3 n3 c3] 24)).alloc (.cells #[.int .i64 s4, .slice a4 n4 c4] 24) = W1 at *
  generalize u1.heap.size = A at *
  have m0 := b3.c0; have m1 := b3.c1; have m2 := b4.c0; have m3 := b4.c1
  have lA := b3.lt; have lB := b4.lt
  clear b3 b4
  have h0d : Ext W1 W1.drew := Below.drew (Ext.refl _)
  go_region_held3 (fun w' => w'.cell? ⟨A + 1, 0, none⟩ = some (.int .i64 s4) ∧ w'.cell? ⟨A + 1, 1, none⟩ = some (.slice a4 n4 c4))
    (exact ⟨cellKeep (W := W1) (by assumption) lB m2, cellKeep (W := W1) (by assumption) lB m3⟩)
    (first
      | (have _ := qv0; go_at_call 34; refine (Cmp_is k (IB.ext hv0) Kv0 K hK4 FQ.out F1.out Ek.out).mono ?_; rintro e v1 ⟨rfl, qv1⟩; have hv1 : Ext W1 v1 := hv0.trans qv1)
      | (go_at_call 35; refine (HOf.out _).mono ?_; rintro e v0 ⟨rfl, Kv0, qv0⟩; have hv0 : Ext W1 v0 := Ext.trans (by assumption) qv0))
  have IA := IA.ext hv1; have IB := IB.ext hv1
  have m0 := cellKeep hv1 lA m0; have m1 := cellKeep hv1 lA m1; have m2 := cellKeep hv1 lB m2; have m3 := cellKeep hv1 lB m3
  have lA := Nat.lt_of_lt_of_le lA hv1.size; have lB := Nat.lt_of_lt_of_le lB hv1.size
  have HE2 := hid (HE1.out.trans hv1)
  clear hv0 qv0 hv1 qv1 Kv0 HE1 h0d
  by_cases hq : Q = 1
  · have hk0 : k = 0 := by rw [← hk, hq]; decide
    subst hk0
    have Hft : Hid (ftx P Q = ⟨(Lib.itoa P).toArray⟩) := by show _ = _; unfold ftx; rw [if_pos hq]
    clear hk hq Ek
    go_wp2_with fail
    refine (Text_any s3 a3 n3 c3 P v1 IA (by omega) (tab_ext Htab.out HE2.out)).mono ?_
    rintro e v2 ⟨rfl, hx2⟩
    go_wp2_with fail
    go_ret
    exact ⟨by show _ = _; rw [Hft.out]; rfl, HE2.out.trans hx2⟩
  · have hk0 : (k == 0) = false := by
      rw [beq_eq_false_iff_ne]
      intro h0
      rw [h0] at hk
      unfold cmp3 at hk
      by_cases h1 : Q < 1
      · rw [if_pos h1] at hk; omega
      · rw [if_neg h1] at hk
        by_cases h2 : 1 < Q
        · rw [if_pos h2] at hk; omega
        · omega
    have Hft : Hid (ftx P Q = ⟨(Lib.itoa P).toArray⟩ ++ ⟨#[47]⟩ ++ ⟨(Lib.itoa Q).toArray⟩) := by show _ = _; unfold ftx; rw [if_neg hq]
    rw [hk0]
    have hs1 := itoa_len hK1 FP.out; have hs2 := itoa_len hK1 FQ.out
    have ht1 : ¬ 9223372036854775807 < (Lib.itoa P).length + 1 := by omega
    have ht2 : ¬ 9223372036854775807 < (Lib.itoa P).length + 1 + (Lib.itoa Q).length := by omega
    clear hk hq Ek hk0 hs1 hs2
    have h0d : Ext v1 v1.drew := Below.drew (Ext.refl _)
    go_wp2_with fail
    go_region_held3 (fun w' => w'.cell? ⟨A, 0, none⟩ = some (.int .i64 s3) ∧ w'.cell? ⟨A, 1, none⟩ = some (.slice a3 n3 c3) ∧ w'.cell? ⟨A + 1, 0, none⟩ = some (.int .i64 s4) ∧ w'.cell? ⟨A + 1, 1, none⟩ = some (.slice a4 n4 c4))
      (exact ⟨cellKeep (W := v1) (by assumption) lA m0, cellKeep (W := v1) (by assumption) lA m1, cellKeep (W := v1) (by assumption) lB m2, cellKeep (W := v1) (by assumption) lB m3⟩)
      (first
        | (have _ := qr0; go_at_call 11; refine (Text_any s4 a4 n4 c4 Q _ (IB.ext hr0) (by omega) (tab_ext Htab.out (HE2.out.trans hr0))).mono ?_; rintro e r1 ⟨rfl, qr1⟩; have hr1 : Ext v1 r1 := hr0.trans qr1)
        | (go_at_call 11; refine (Text_any s3 a3 n3 c3 P _ (IA.ext (by assumption)) (by omega) (tab_ext Htab.out (HE2.out.trans (by assumption)))).mono ?_; rintro e r0 ⟨rfl, qr0⟩; have hr0 : Ext v1 r0 := Ext.trans (by assumption) qr0))
    go_wp2_with fail
    go_ret
    exact ⟨by show _ = _; rw [Hft.out]; rfl, HE2.out.trans hr1⟩

end Go.Proofs.YtdiojbgbeeojkaaGreatDoor

/-
  Reading fractions: scanFrac, parseWhole.
-/
namespace Go.Proofs.YtdiojbgbeeojkaaGreatDoor
open Go.RowKit

theorem scanN_le (l : List Nat) : (scanN l).1 ≤ l.length := by
  unfold scanN
  split
  · rename_i h; exact h.1
  · have h1 := sgl_le l
    have h2 := spos_le (l.drop (sgl l))
    rw [List.length_drop] at h2
    show sgl l + _ ≤ _
    omega

/-- A number, and a bar behind it. -/
def fsl (l : List Nat) : Prop := (scanN l).2 = true ∧ (scanN l).1 < l.length ∧ l.getD (scanN l).1 0 = 47
instance (l : List Nat) : Decidable (fsl l) := by unfold fsl; exact inferInstance
def fend (l : List Nat) : Nat := if fsl l then (scanN l).1 + 1 + spos (l.drop ((scanN l).1 + 1)) else (scanN l).1
def fokk (l : List Nat) : Bool := if fsl l then decide (0 < spos (l.drop ((scanN l).1 + 1))) else (scanN l).2

set_option maxHeartbeats 1000000 in
set_option maxRecDepth 100000 in
theorem scanFrac_any (s : ByteArray) (w : World) (hs : s.size ≤ 9223372036854775807) :
    Calls Tryz.prog 29 #[.string s] w fun e w' => e = .returned (.tuple #[.int .i64 ((scanN (bs s)).1 : Nat), .int .i64 (fend (bs s) : Nat), .bool (fokk (bs s))]) ∧ w = w' := by
  have Hscan := hid (fun wx => scanNumber_any s wx hs)
  have hlen := bs_length s
  have hle := scanN_le (bs s)
  rw [hlen] at hle
  by_cases h : fsl (bs s)
  · have He : Hid (fend (bs s) = (scanN (bs s)).1 + 1 + spos ((bs s).drop ((scanN (bs s)).1 + 1))) := by show _ = _; unfold fend; rw [if_pos h]
    have Ho : Hid (fokk (bs s) = decide (0 < spos ((bs s).drop ((scanN (bs s)).1 + 1)))) := by show _ = _; unfold fokk; rw [if_pos h]
    obtain ⟨h1, h2, h3⟩ := h
    obtain ⟨en, hen⟩ : ∃ en, (scanN (bs s)).1 = en := ⟨_, rfl⟩
    rw [h1, hen] at Hscan
    rw [hen] at He Ho h2 h3
    rw [hlen] at h2
    have hb : ((s[en].toNat : Int) == 47) = true := by rw [beq_iff_eq, bs_at s en h2]; omega
    have hext : bs (s.extract (en + 1) s.size) = (bs s).drop (en + 1) := by
      rw [bs_extract, List.take_of_length_le]
      rw [List.length_drop, bs_length]; omega
    have hsz : (s.extract (en + 1) s.size).size ≤ 9223372036854775807 := by
      rw [← bs_length, hext, List.length_drop, bs_length]; omega
    have Hsp := hid (fun wx => scanPositive_any (s.extract (en + 1) s.size) wx hsz)
    have hspl := spos_le ((bs s).drop (en + 1))
    rw [List.length_drop, bs_length] at hspl
    rw [hext] at Hsp
    obtain ⟨d, hd⟩ : ∃ d, spos ((bs s).drop (en + 1)) = d := ⟨_, rfl⟩
    rw [hd] at He Ho Hsp hspl
    rw [hen]
    have hne : ((en : Int) == (s.size : Int)) = false := by rw [beq_eq_false_iff_ne]; omega
    have hgi : (en : Int) + 1 ≤ (s.size : Int) := by omega
    have hli : (en : Int) < (s.size : Int) := by omega
    have hdl : (en : Int) + 1 + (d : Int) ≤ (s.size : Int) := by omega
    clear hext hsz hd h1 h3 hle hlen hen
    go_enter Tryz.func29, Tryz.ntmps29
    go_wp2_with fail
    refine (Hscan.out _).mono ?_
    rintro e w1 ⟨rfl, rfl⟩
    go_wp2_with fail
    refine (Hsp.out _).mono ?_
    rintro e w2 ⟨rfl, rfl⟩
    go_wp2_with fail
    exact bodyPost_ret (v := .tuple #[.int .i64 (en : Int), .int .i64 ((en : Int) + 1 + (d : Int)), .bool (decide ((0 : Int) < (d : Int)))]) (by simp [results, Tryz.results29, go_sem]) rfl ⟨by rw [He.out, Ho.out]; simp, rfl⟩
  · have He : Hid (fend (bs s) = (scanN (bs s)).1) := by show _ = _; unfold fend; rw [if_neg h]
    have Ho : Hid (fokk (bs s) = (scanN (bs s)).2) := by show _ = _; unfold fokk; rw [if_neg h]
    obtain ⟨en, hen⟩ : ∃ en, (scanN (bs s)).1 = en := ⟨_, rfl⟩
    obtain ⟨ok, hok⟩ : ∃ ok, (scanN (bs s)).2 = ok := ⟨_, rfl⟩
    rw [hok, hen] at Hscan
    have hcase : ok = false ∨ (ok = true ∧ ((en : Int) == (s.size : Int)) = true) ∨ (ok = true ∧ ∃ h2 : en < s.size, ((en : Int) == (s.size : Int)) = false ∧ ((s[en].toNat : Int) == 47) = false) := by
      cases ok
      · exact Or.inl rfl
      · right
        by_cases h2 : en < s.size
        · right
          refine ⟨rfl, h2, by rw [beq_eq_false_iff_ne]; omega, ?_⟩
          rw [beq_eq_false_iff_ne, bs_at s en h2]
          intro hc
          exact h ⟨hok, by rw [hen, hlen]; exact h2, by rw [hen]; omega⟩
        · left; exact ⟨rfl, by rw [hen] at hle; rw [beq_iff_eq]; omega⟩
    rw [hen] at He hle
    rw [hok] at Ho
    rw [hen]
    clear h hen hok hlen
    rcases hcase with rfl | ⟨rfl, h1⟩ | ⟨rfl, h2, h3, h4⟩
    · go_enter Tryz.func29, Tryz.ntmps29
      go_wp2_with fail
      refine (Hscan.out _).mono ?_
      rintro e w1 ⟨rfl, rfl⟩
      go_wp2_with fail
      exact bodyPost_ret (v := .tuple #[.int .i64 (en : Int), .int .i64 (en : Int), .bool false]) (by simp [results, Tryz.results29, go_sem]) rfl ⟨by rw [He.out, Ho.out], rfl⟩
    · go_enter Tryz.func29, Tryz.ntmps29
      go_wp2_with fail
      refine (Hscan.out _).mono ?_
      rintro e w1 ⟨rfl, rfl⟩
      go_wp2_with fail
      exact bodyPost_ret (v := .tuple #[.int .i64 (en : Int), .int .i64 (en : Int), .bool true]) (by simp [results, Tryz.results29, go_sem]) rfl ⟨by rw [He.out, Ho.out], rfl⟩
    · go_enter Tryz.func29, Tryz.ntmps29
      go_wp2_with fail
      refine (Hscan.out _).mono ?_
      rintro e w1 ⟨rfl, rfl⟩
      go_wp2_with fail
      exact bodyPost_ret (v := .tuple #[.int .i64 (en : Int), .int .i64 (en : Int), .bool true]) (by simp [results, Tryz.results29, go_sem]) rfl ⟨by rw [He.out, Ho.out], rfl⟩

/-- A call answers a fraction and a fault. -/
def QRetG (w : World) (P Q C A : Int) (e : Ending) (w' : World) : Prop :=
  ∃ (s : Int) (a : Option Addr) (n c : Nat) (s' : Int) (a' : Option Addr) (n' c' : Nat), e = .returned (.tuple #[.agg #[.int .i64 s, .slice a n c, .int .i64 s', .slice a' n' c'], .agg #[.int .i64 C, .int .i64 A]]) ∧ IsFr w' s a n c s' a' n' c' P Q ∧ Ext w w'

set_option maxHeartbeats 2000000 in
set_option maxRecDepth 100000 in
theorem parseWhole_any (s : ByteArray) (w : World) (hs : s.size ≤ 9223372036854775807) (K : Nat) (hK : K ≤ 4194304) (hK1 : 1 ≤ K) (fz : Fit K (pz (bs s))) (f1 : Fit K 1) (hbr : Bru w) :
    Calls Tryz.prog 30 #[.string s] w (QRetG w (pz (bs s)) 1 ((pcode (bs s) : Nat) : Int) ((pat (bs s) : Nat) : Int)) := by
  have Hp := hid (fun wx => Parse_any s wx hs)
  have Fz := hid fz; have F1 := hid f1; have Hbr := hid hbr
  have hz0 : pcode (bs s) ≠ 0 → pz (bs s) = 0 := by
    intro h
    unfold pz; unfold pcode at h
    rw [if_neg]
    intro hc
    rw [if_pos ⟨hc.1, hc.2.1⟩, if_neg hc.2.2] at h
    exact h rfl
  have ha0 : pcode (bs s) = 0 → pat (bs s) = 0 := by
    intro h
    unfold pcode at h; unfold pat
    by_cases hc : (scanN (bs s)).2 = true ∧ ¬ (scanN (bs s)).1 < (bs s).length
    · rw [if_pos hc]
    · rw [if_neg hc] at h; omega
  obtain ⟨z, ez⟩ : ∃ z, pz (bs s) = z := ⟨_, rfl⟩
  obtain ⟨p, ep⟩ : ∃ p : Int, ((pcode (bs s) : Nat) : Int) = p := ⟨_, rfl⟩
  obtain ⟨p', ep'⟩ : ∃ p' : Int, ((pat (bs s) : Nat) : Int) = p' := ⟨_, rfl⟩
  have hz0 : p ≠ 0 → z = 0 := by intro h; rw [← ez]; exact hz0 (by omega)
  have ha0 : p = 0 → p' = 0 := by intro h; have := ha0 (by omega); omega
  rw [ez] at Hp Fz; rw [ep, ep'] at Hp
  rw [ez, ep, ep']
  have HOf := hid (fun wx => Of_any 1 (by omega) (by omega) wx)
  clear ez ep ep' fz f1 hbr
  have hE : Ext w ((w.alloc (.cells #[.int .i64 0, .slice none 0 0, .int .i64 0, .slice none 0 0] 26)).alloc (.cells #[.int .i64 0, .int .i64 0] 28)) := (Ext.alloc w (.cells #[.int .i64 0, .slice none 0 0, .int .i64 0, .slice none 0 0] 26)).then (.cells #[.int .i64 0, .int .i64 0] 28)
  have qr : QRes ((w.alloc (.cells #[.int .i64 0, .slice none 0 0, .int .i64 0, .slice none 0 0] 26)).alloc (.cells #[.int .i64 0, .int .i64 0] 28)) w.heap.size := by
    have q : QRes (w.alloc (.cells #[.int .i64 0, .slice none 0 0, .int .i64 0, .slice none 0 0] 26)) w.heap.size := ⟨heap_alloc_new w _⟩
    exact q.ext (Ext.alloc _ _)
  have fr : FRes ((w.alloc (.cells #[.int .i64 0, .slice none 0 0, .int .i64 0, .slice none 0 0] 26)).alloc (.cells #[.int .i64 0, .int .i64 0] 28)) (w.heap.size + 1) := by
    have := heap_alloc_new (w.alloc (.cells #[.int .i64 0, .slice none 0 0, .int .i64 0, .slice none 0 0] 26)) (.cells #[.int .i64 0, .int .i64 0] 28)
    exact ⟨by simp, by simpa using this⟩
  by_cases hp : p = 0
  · have hp' := ha0 hp
    subst hp; subst hp'
    clear hz0 ha0
    go_enter Tryz.func30, Tryz.ntmps30
    go_wp2_with fail
    generalize (w.alloc (.cells #[.int .i64 0, .slice none 0 0, .int .i64 0, .slice none 0 0] 26)).alloc (.cells #[.int .i64 0, .int .i64 0] 28) = W0 at *
    refine (Hp.out W0).mono ?_
    rintro e u1 ⟨s1, a1, n1, c1, rfl, I1, hx1⟩
    have hq1 := (Ext.alloc u1 (.cells #[.int .i64 s1, .slice a1 n1 c1] 24)).then (.cells #[.int .i64 0, .int .i64 0] 28)
    have b1 := (box_new u1 s1 a1 n1 c1).ext (Ext.alloc _ (.cells #[.int .i64 0, .int .i64 0] 28))
    have I1 := I1.ext hq1
    have lR : w.heap.size + 1 < u1.heap.size := Nat.lt_of_lt_of_le fr.lt hx1.size
    have qr := qr.ext (hx1.trans hq1); have fr := fr.ext (hx1.trans hq1)
    have HE1 := hid (hE.trans (hx1.trans hq1))
    have LR := hid lR
    clear hq1 hx1 hE lR
    go_wp2_with fail
    generalize (u1.alloc (.cells #[.int .i64 s1, .slice a1 n1 c1] 24)).alloc (.cells #[.int .i64 0, .int .i64 0] 28) = W1 at *
    generalize u1.heap.size = A at *
    have m0 := b1.c0; have m1 := b1.c1; have lA := b1.lt
    have lR := LR.out
    have h0d : Ext W1 W1.drew := Below.drew (Ext.refl _)
    go_region_held3 (fun w' => w'.cell? ⟨A, 0, none⟩ = some (.int .i64 s1) ∧ w'.cell? ⟨A, 1, none⟩ = some (.slice a1 n1 c1))
      (exact ⟨by (repeat (refine cellPut (by omega) ?_)); exact cellKeep (W := W1) (by assumption) lA m0, by (repeat (refine cellPut (by omega) ?_)); exact cellKeep (W := W1) (by assumption) lA m1⟩)
      (first
        | (have _ := qv0; go_at_call 49; refine (lowest_fr s1 1 a1 none n1 c1 0 0 z 1 _ (I1.ext hv0) Kv0 K hK hK1 Fz.out F1.out (by omega) (bru_ext Hbr.out (HE1.out.trans hv0))).mono ?_; rintro e v1 ⟨s9, a9, n9, c9, s8, a8, n8, c8, rfl, I9, qv1⟩; have hv1 : Ext W1 v1 := hv0.trans qv1; have R5 := qr.ext hv1; have k0 := R5.c0; have k1 := R5.c1; have k2 := R5.c2; have k3 := R5.c3; have f0 := R5.f0 0; have f1 := R5.f0 1; have f2 := R5.f0 2; have f3 := R5.f0 3; have F5 := fr.ext hv1; have k4 := F5.c0; have k5 := F5.c1; have f4 := F5.f0; have f5 := F5.f1)
        | (go_at_call 35; refine (HOf.out _).mono ?_; rintro e v0 ⟨rfl, Kv0, qv0⟩; have hv0 : Ext W1 v0 := Ext.trans (by assumption) qv0))
    have hkk := Keep64.set6 (w := v1) (.i64 k0) (.slice k1) (.i64 k2) (.slice k3) (.i64 k4) (.i64 k5) (notW_i64 s9) (notW_slice a9 n9 c9) (notW_i64 s8) (notW_slice a8 n8 c8) (notW_i64 0) (.int .i64 0)
    have HI9 := hid ((I9.cast (nf_one z).1 (nf_one z).2).keep64 hkk)
    clear hkk I9
    go_wp2_with fail
    exact bodyPost_ret (v := .tuple #[.agg #[.int .i64 s9, .slice a9 n9 c9, .int .i64 s8, .slice a8 n8 c8], .agg #[.int .i64 0, .int .i64 0]]) (by simp [results, Tryz.results30, go_sem, k0, k1, k2, k3, k4, k5]) rfl ⟨s9, a9, n9, c9, s8, a8, n8, c8, rfl, HI9.out, (((HE1.out.trans hv1).put2 (by omega) _ _).put2 (by omega) _ _).put2 (by omega) _ _⟩
  · have hz := hz0 hp
    subst hz
    clear hz0 ha0
    have hpb : (p == 0) = false := by rw [beq_eq_false_iff_ne]; exact hp
    go_enter Tryz.func30, Tryz.ntmps30
    go_wp2_with fail
    generalize (w.alloc (.cells #[.int .i64 0, .slice none 0 0, .int .i64 0, .slice none 0 0] 26)).alloc (.cells #[.int .i64 0, .int .i64 0] 28) = W0 at *
    refine (Hp.out W0).mono ?_
    rintro e u1 ⟨s1, a1, n1, c1, rfl, I1, hx1⟩
    have hq1 := (Ext.alloc u1 (.cells #[.int .i64 s1, .slice a1 n1 c1] 24)).then (.cells #[.int .i64 p, .int .i64 p'] 28)
    have f1 := fbx_new (u1.alloc (.cells #[.int .i64 s1, .slice a1 n1 c1] 24)) p p'
    rw [show (u1.alloc (.cells #[.int .i64 s1, .slice a1 n1 c1] 24)).heap.size = u1.heap.size + 1 from by simp] at f1
    have lR : w.heap.size + 1 < u1.heap.size := Nat.lt_of_lt_of_le fr.lt hx1.size
    have qr := qr.ext (hx1.trans hq1); have fr := fr.ext (hx1.trans hq1)
    have HE1 := hid (hE.trans (hx1.trans hq1))
    have m0 := f1.c0; have m1 := f1.c1
    have k0 := qr.c0; have k1 := qr.c1; have k2 := qr.c2; have k3 := qr.c3; have f0 := qr.f0 0; have f1 := qr.f0 1; have f2 := qr.f0 2; have f3 := qr.f0 3; have k4 := fr.c0; have k5 := fr.c1; have f4 := fr.f0; have f5 := fr.f1
    have hn1 : u1.heap.size + 1 ≠ w.heap.size := by omega
    have hn2 : u1.heap.size + 1 ≠ w.heap.size + 1 := by omega
    clear hq1 hx1 hE lR I1
    go_wp2_with fail
    go_region
    all_goals
      go_wp2_with fail
      exact bodyPost_ret (v := .tuple #[.agg #[.int .i64 0, .slice none 0 0, .int .i64 0, .slice none 0 0], .agg #[.int .i64 p, .int .i64 p']]) (by simp [results, Tryz.results30, go_sem, k0, k1, k2, k3, k4, k5]) rfl ⟨0, none, 0, 0, 0, none, 0, 0, rfl, IsFr.zero _, Below.drew (((HE1.out.put2 (by omega) _ _).put2 (by omega) _ _).put2 (by omega) _ _)⟩

end Go.Proofs.YtdiojbgbeeojkaaGreatDoor

/-
  Fractions' texts: what is read, what is written.
-/
namespace Go.Proofs.YtdiojbgbeeojkaaGreatDoor
open Go.RowKit

theorem tw_idem (l : List Nat) : (l.takeWhile isD).takeWhile isD = l.takeWhile isD := by
  induction l with
  | nil => rfl
  | cons x r ih =>
    by_cases h : isD x = true
    · simp [h, ih]
    · simp [h]
theorem sgl_head {a b : List Nat} (h : a.getD 0 0 = b.getD 0 0) : sgl a = sgl b := by unfold sgl; rw [h]

theorem spos_take (l : List Nat) : spos (l.take (spos l)) = spos l := by
  by_cases h : l.length = 0 ∨ l.getD 0 0 = 48
  · have e : spos l = 0 := by unfold spos; rw [if_pos h]
    rw [e]
    rfl
  · have e : spos l = dcount l := by unfold spos; rw [if_neg h]
    rw [e]
    have hp : l.takeWhile isD = l.take (dcount l) := List.prefix_iff_eq_take.1 (List.takeWhile_prefix _)
    by_cases h0 : dcount l = 0
    · rw [h0]; rfl
    · have hn : ¬ ((l.take (dcount l)).length = 0 ∨ (l.take (dcount l)).getD 0 0 = 48) := by
        intro hc
        rcases hc with hc | hc
        · rw [List.length_take] at hc
          have := dcount_le l
          omega
        · rw [List.getD_eq_getElem?_getD, List.getElem?_take, if_pos (by omega), ← List.getD_eq_getElem?_getD] at hc
          exact h (Or.inr hc)
      unfold spos
      rw [if_neg hn]
      rw [← hp]
      unfold dcount
      rw [tw_idem]

theorem scan_take (l : List Nat) (h : (scanN l).2 = true) : scanN (l.take (scanN l).1) = ((scanN l).1, true) := by
  by_cases h48 : 0 < l.length ∧ l.getD 0 0 = 48
  · have e : scanN l = (1, true) := by unfold scanN; rw [if_pos h48]
    rw [e]
    show scanN (l.take 1) = (1, true)
    unfold scanN
    rw [if_pos]
    refine ⟨by rw [List.length_take]; have := h48.1; omega, ?_⟩
    rw [List.getD_eq_getElem?_getD, List.getElem?_take, if_pos (by omega), ← List.getD_eq_getElem?_getD]
    exact h48.2
  · have e : scanN l = (sgl l + spos (l.drop (sgl l)), decide (0 < spos (l.drop (sgl l)))) := by unfold scanN; rw [if_neg h48]
    rw [e] at h ⊢
    have hk : 0 < spos (l.drop (sgl l)) := by simpa using h
    show scanN (l.take (sgl l + spos (l.drop (sgl l)))) = (sgl l + spos (l.drop (sgl l)), true)
    have hat : (l.take (sgl l + spos (l.drop (sgl l)))).getD 0 0 = l.getD 0 0 := by
      rw [List.getD_eq_getElem?_getD, List.getElem?_take, if_pos (by omega), ← List.getD_eq_getElem?_getD]
    have hs : sgl (l.take (sgl l + spos (l.drop (sgl l)))) = sgl l := sgl_head hat
    have hd : (l.take (sgl l + spos (l.drop (sgl l)))).drop (sgl l) = (l.drop (sgl l)).take (spos (l.drop (sgl l))) := by
      rw [List.drop_take]
      congr 1
      omega
    have hle := scanN_le l
    rw [e] at hle
    have hle' : sgl l + spos (l.drop (sgl l)) ≤ l.length := hle
    have hne : ¬ (0 < (l.take (sgl l + spos (l.drop (sgl l)))).length ∧ (l.take (sgl l + spos (l.drop (sgl l)))).getD 0 0 = 48) := by
      rintro ⟨q1, q2⟩
      rw [hat] at q2
      exact h48 ⟨by omega, q2⟩
    unfold scanN
    rw [if_neg hne, hs, hd, spos_take]
    rw [decide_eq_true hk]

theorem below_scan (l : List Nat) (h : spos l = l.length) (h0 : 0 < spos l) : scanN l = (l.length, true) ∧ sgl l = 0 := by
  have hc : ¬ (l.length = 0 ∨ l.getD 0 0 = 48) := by
    intro hc
    have : spos l = 0 := by unfold spos; rw [if_pos hc]
    omega
  have hd : dcount l = l.length := by rw [← h]; unfold spos; rw [if_neg hc]
  have h1 : isD (l.getD 0 0) = true := by
    have hp : l.takeWhile isD = l := by
      have := List.prefix_iff_eq_take.1 (List.takeWhile_prefix (l := l) isD)
      rw [show (l.takeWhile isD).length = l.length from hd, List.take_length] at this
      exact this
    cases l with
    | nil => simp at hc
    | cons x r =>
      have : isD x = true := by
        by_cases hx : isD x = true
        · exact hx
        · simp [hx] at hp
      simpa using this
  have hs : sgl l = 0 := by
    unfold sgl
    rw [if_neg]
    intro hx
    rw [hx] at h1
    exact absurd h1 (by decide)
  refine ⟨?_, hs⟩
  unfold scanN
  rw [if_neg (fun hx => hc (Or.inr hx.2)), hs, List.drop_zero, h, Nat.zero_add, decide_eq_true (by omega)]

theorem no_bar (z : Int) : ∀ x ∈ txt z, x ≠ 47 := by
  have hsc := txt_scan z
  have hall := allD_of_scan (txt z) (by rw [hsc]) (by rw [hsc]; simp)
  intro x hx hb
  subst hb
  have hsl := sgl_le (txt z)
  rw [← List.take_append_drop (sgl (txt z)) (txt z)] at hx
  rcases List.mem_append.1 hx with h1 | h1
  · by_cases h45 : (txt z).getD 0 0 = 45
    · have hs : sgl (txt z) = 1 := by unfold sgl; rw [if_pos h45]
      rw [hs] at h1
      cases ht : txt z with
      | nil => rw [ht] at h1; simp at h1
      | cons y r =>
        rw [ht] at h1 h45
        simp at h1 h45
        omega
    · have hs : sgl (txt z) = 0 := by unfold sgl; rw [if_neg h45]
      rw [hs] at h1
      simp at h1
  · obtain ⟨k, hk, e⟩ := List.getElem_of_mem h1
    have := hall k hk
    rw [List.getD_eq_getElem?_getD, List.getElem?_eq_getElem hk, e] at this
    exact absurd this (by decide)

theorem txt_inj {a b : Int} (h : txt a = txt b) : a = b := by
  have h1 := txt_val a
  rw [h, txt_val b] at h1
  exact h1.symm

theorem split_bar {a b c d : List Nat} (ha : ∀ x ∈ a, x ≠ 47) (hc : ∀ x ∈ c, x ≠ 47) (h : a ++ 47 :: b = c ++ 47 :: d) : b = d := by
  induction a generalizing c with
  | nil =>
    cases c with
    | nil => simpa using h
    | cons y r =>
      simp at h
      exact absurd h.1.symm (hc y List.mem_cons_self)
  | cons x r ih =>
    cases c with
    | nil =>
      simp at h
      exact absurd h.1 (ha x List.mem_cons_self)
    | cons y r' =>
      simp at h
      exact ih (fun z hz => ha z (List.mem_cons_of_mem _ hz)) (fun z hz => hc z (List.mem_cons_of_mem _ hz)) h.2

/-- What stands above the bar, and below it. -/
def fab (l : List Nat) : List Nat := l.take (scanN l).1
def fbe (l : List Nat) : List Nat := l.drop ((scanN l).1 + 1)
theorem fsl_split {l : List Nat} (h : fsl l) : l = fab l ++ 47 :: fbe l := by
  obtain ⟨_, h2, h3⟩ := h
  unfold fab fbe
  conv => lhs; rw [← List.take_append_drop (scanN l).1 l]
  congr 1
  rw [List.drop_eq_getElem_cons h2]
  congr 1
  rw [List.getD_eq_getElem?_getD, List.getElem?_eq_getElem h2] at h3
  exact h3
def fgood (l : List Nat) : Prop := fokk l = true ∧ ¬ fend l < l.length
def flg (l : List Nat) : Prop := 1000 < (fab l).length - sgl (fab l) ∨ 1000 < (fbe l).length - sgl (fbe l)
def ffm (l : List Nat) : Prop := fbe l = [49] ∨ Nat.gcd (pz (fab l)).natAbs (pz (fbe l)).natAbs ≠ 1
instance (l : List Nat) : Decidable (fgood l) := by unfold fgood; exact inferInstance
instance (l : List Nat) : Decidable (flg l) := by unfold flg; exact inferInstance
instance (l : List Nat) : Decidable (ffm l) := by unfold ffm; exact inferInstance

theorem fab_scan {l : List Nat} (h : fsl l) : scanN (fab l) = ((fab l).length, true) := by
  have h1 := scan_take l h.1
  have h2 : (fab l).length = (scanN l).1 := by
    unfold fab
    rw [List.length_take]
    have := h.2.1
    omega
  rw [h2]
  exact h1
theorem fbe_scan {l : List Nat} (h : fsl l) (hg : fgood l) : scanN (fbe l) = ((fbe l).length, true) ∧ sgl (fbe l) = 0 ∧ spos (fbe l) = (fbe l).length ∧ 0 < (fbe l).length := by
  obtain ⟨h1, h2⟩ := hg
  unfold fokk at h1; unfold fend at h2
  rw [if_pos h] at h1 h2
  have hk : 0 < spos (fbe l) := by simpa [fbe] using h1
  have hle := spos_le (fbe l)
  have hl : (fbe l).length = l.length - ((scanN l).1 + 1) := by unfold fbe; rw [List.length_drop]
  have he : spos (fbe l) = (fbe l).length := by
    have h3 : ¬ (scanN l).1 + 1 + spos (fbe l) < l.length := h2
    have := h.2.1
    omega
  obtain ⟨g1, g2⟩ := below_scan (fbe l) he hk
  exact ⟨g1, g2, he, by omega⟩

theorem code_of {l : List Nat} (h : scanN l = (l.length, true)) (hl : ¬ 1000 < l.length - sgl l) : pcode l = 0 ∧ pz l = sgn (decide (0 < sgl l)) (dval (l.drop (sgl l))) := by
  refine ⟨?_, ?_⟩
  · unfold pcode; rw [h, if_pos ⟨rfl, by simp⟩, if_neg hl]
  · unfold pz; rw [h, if_pos ⟨rfl, by simp, hl⟩]

/-- What is read at the two sides of a bar. -/
theorem sides {l : List Nat} (h : fsl l) (hg : fgood l) (hl : ¬ flg l) : txt (pz (fab l)) = fab l ∧ txt (pz (fbe l)) = fbe l ∧ 0 < pz (fbe l) ∧ (fbe l = [49] ↔ pz (fbe l) = 1) := by
  have h1 := fab_scan h
  obtain ⟨h2, h3, h4, h5⟩ := fbe_scan h hg
  obtain ⟨c1, _⟩ := code_of h1 (fun hx => hl (Or.inl hx))
  obtain ⟨c2, v2⟩ := code_of h2 (fun hx => hl (Or.inr hx))
  have t1 := txt_pz _ c1
  have t2 := txt_pz _ c2
  have hnn : 0 ≤ pz (fbe l) := by rw [v2, h3]; show 0 ≤ ((dval _ : Nat) : Int); omega
  refine ⟨t1, t2, ?_, ?_⟩
  · have : pz (fbe l) ≠ 0 := by
      intro h0
      rw [h0] at t2
      have e : txt 0 = [48] := by decide +kernel
      rw [e] at t2
      have hs : spos (fbe l) = 0 := by rw [← t2]; decide
      omega
    omega
  · have e : txt 1 = [49] := by
      unfold txt
      rw [show Lib.itoa 1 = [49] from one_text]
      rfl
    constructor
    · intro h6
      exact txt_inj (by rw [t2, h6, e])
    · intro h6
      rw [h6, e] at t2
      exact t2.symm

theorem bs_inj {a b : ByteArray} (h : bs a = bs b) : a = b := by
  unfold bs at h
  have h2 : a.data.toList = b.data.toList := by
    refine List.map_inj_right ?_ |>.1 h
    intro x y hxy
    exact UInt8.toNat_inj.1 hxy
  cases a; cases b
  congr 1
  exact Array.toList_inj.1 h2

theorem bs_ftx (P Q : Int) : bs (ftx P Q) = if Q = 1 then txt P else txt P ++ 47 :: txt Q := by
  unfold ftx
  split
  · rfl
  · have e : (⟨(Lib.itoa P).toArray⟩ ++ ⟨#[47]⟩ ++ ⟨(Lib.itoa Q).toArray⟩ : ByteArray) = ⟨(Lib.itoa P ++ [47] ++ Lib.itoa Q).toArray⟩ := by
      rw [show (⟨#[47]⟩ : ByteArray) = ⟨[47].toArray⟩ from rfl, ByteArray.mk_append_mk, ByteArray.mk_append_mk]
    rw [e]
    unfold bs txt
    simp

/-- A fraction is written as it was read, just where it was in lowest terms and 1 is not below its bar. -/
theorem form_iff {s : ByteArray} (h : fsl (bs s)) (hg : fgood (bs s)) (hl : ¬ flg (bs s)) :
    ftx (nfp (pz (fab (bs s))) (pz (fbe (bs s)))) (nfq (pz (fab (bs s))) (pz (fbe (bs s)))) = s ↔ ¬ ffm (bs s) := by
  obtain ⟨t1, t2, hp, h1⟩ := sides h hg hl
  have hsp := fsl_split h
  have hff : ffm (bs s) ↔ (pz (fbe (bs s)) = 1 ∨ Nat.gcd (pz (fab (bs s))).natAbs (pz (fbe (bs s))).natAbs ≠ 1) := by unfold ffm; rw [h1]
  rw [hff]
  rw [← t1, ← t2] at hsp
  clear t1 t2 h1 hff
  generalize pz (fab (bs s)) = a at *
  generalize pz (fbe (bs s)) = b at *
  have hq : ∀ z, bs s ≠ txt z := by
    intro z hz
    have hm : 47 ∈ bs s := by rw [hsp]; simp
    rw [hz] at hm
    exact no_bar z 47 hm rfl
  constructor
  · intro he hf
    have hbs := bs_ftx (nfp a b) (nfq a b)
    rw [he] at hbs
    by_cases hn : nfq a b = 1
    · rw [if_pos hn] at hbs
      exact hq _ hbs
    · rw [if_neg hn, hsp] at hbs
      have hd := txt_inj (split_bar (no_bar _) (no_bar _) hbs)
      rcases hf with hf | hf
      · rw [hf, (nf_one a).2] at hn
        exact hn rfl
      · have := nfq_less hp (z1 := a) hf
        omega
  · intro hf
    have hb1 : b ≠ 1 := fun hx => hf (Or.inl hx)
    have hg1 : Nat.gcd a.natAbs b.natAbs = 1 := Decidable.byContradiction fun hx => hf (Or.inr hx)
    obtain ⟨g1, g2⟩ := nf_self hp hg1
    apply bs_inj
    rw [g1, g2, bs_ftx, if_neg hb1, hsp]

end Go.Proofs.YtdiojbgbeeojkaaGreatDoor
