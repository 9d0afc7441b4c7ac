/-
  Fractions of the program: Mul, Quo.
-/
import Derived.Test.YtdiojbgbeeojkaaGreatDoorMNf

namespace Go.Proofs.YtdiojbgbeeojkaaGreatDoor
open Go.RowKit

set_option maxHeartbeats 4000000 in
set_option maxRecDepth 100000 in
theorem QMul_any (s1 : Int) (a1 : Option Addr) (n1 c1 : Nat) (s1x : Int) (a1x : Option Addr) (n1x c1x : Nat) (s2 : Int) (a2 : Option Addr) (n2 c2 : Nat) (s2x : Int) (a2x : Option Addr) (n2x c2x : Nat) (P Q R S : Int) (w : World) (h1 : IsFr w s1 a1 n1 c1 s1x a1x n1x c1x P Q) (h2 : IsFr w s2 a2 n2 c2 s2x a2x n2x c2x R S) (K : Nat) (hK : K ≤ 4194304) (hK1 : 1 ≤ K) (fP : Fit K P) (fQ : Fit K Q) (fR : Fit K R) (fS : Fit K S) (fX : Fit K (P * R)) (fT : Fit K (Q * S)) (hne : Q * S ≠ 0) (hbr : Bru w) :
    Calls Tryz.prog 21 #[.agg #[.int .i64 s1, .slice a1 n1 c1, .int .i64 s1x, .slice a1x n1x c1x], .agg #[.int .i64 s2, .slice a2 n2 c2, .int .i64 s2x, .slice a2x n2x c2x]] w (QRet w (nfp (P * R) (Q * S)) (nfq (P * R) (Q * S))) := by
  have FP := hid fP; have FQ := hid fQ; have FR := hid fR; have FS := hid fS
  clear fP fQ fR fS
  have FX := hid fX; have FT := hid fT; have Hne := hid hne; have Hbr := hid hbr
  clear fX fT hne hbr
  have H1 := hid h1; have H2 := hid h2
  clear h1 h2
  have hE : Ext w (((w.alloc (.cells #[.int .i64 s1, .slice a1 n1 c1, .int .i64 s1x, .slice a1x n1x c1x] 26)).alloc (.cells #[.int .i64 s2, .slice a2 n2 c2, .int .i64 s2x, .slice a2x n2x c2x] 26)).alloc (.cells #[.int .i64 0, .slice none 0 0, .int .i64 0, .slice none 0 0] 26)) := ((Ext.alloc w (.cells #[.int .i64 s1, .slice a1 n1 c1, .int .i64 s1x, .slice a1x n1x c1x] 26)).then (.cells #[.int .i64 s2, .slice a2 n2 c2, .int .i64 s2x, .slice a2x n2x c2x] 26)).then (.cells #[.int .i64 0, .slice none 0 0, .int .i64 0, .slice none 0 0] 26)
  have qy := qbx_new (w.alloc (.cells #[.int .i64 s1, .slice a1 n1 c1, .int .i64 s1x, .slice a1x n1x c1x] 26)) s2 a2 n2 c2 s2x a2x n2x c2x
  rw [show (w.alloc (.cells #[.int .i64 s1, .slice a1 n1 c1, .int .i64 s1x, .slice a1x n1x c1x] 26)).heap.size = w.heap.size + 1 from by simp] at qy
  have qy := qy.ext (Ext.alloc _ (.cells #[.int .i64 0, .slice none 0 0, .int .i64 0, .slice none 0 0] 26))
  have qr : QRes (((w.alloc (.cells #[.int .i64 s1, .slice a1 n1 c1, .int .i64 s1x, .slice a1x n1x c1x] 26)).alloc (.cells #[.int .i64 s2, .slice a2 n2 c2, .int .i64 s2x, .slice a2x n2x c2x] 26)).alloc (.cells #[.int .i64 0, .slice none 0 0, .int .i64 0, .slice none 0 0] 26)) (w.heap.size + 1 + 1) := by
    have := heap_alloc_new ((w.alloc (.cells #[.int .i64 s1, .slice a1 n1 c1, .int .i64 s1x, .slice a1x n1x c1x] 26)).alloc (.cells #[.int .i64 s2, .slice a2 n2 c2, .int .i64 s2x, .slice a2x n2x c2x] 26)) (.cells #[.int .i64 0, .slice none 0 0, .int .i64 0, .slice none 0 0] 26)
    exact ⟨by simpa using this⟩
  go_enter Tryz.func21, Tryz.ntmps21
  go_wp2_with fail
  generalize ((w.alloc (.cells #[.int .i64 s1, .slice a1 n1 c1, .int .i64 s1x, .slice a1x n1x c1x] 26)).alloc (.cells #[.int .i64 s2, .slice a2 n2 c2, .int .i64 s2x, .slice a2x n2x c2x] 26)).alloc (.cells #[.int .i64 0, .slice none 0 0, .int .i64 0, .slice none 0 0] 26) = W0 at *
  refine (Parts_fr s1 s1x a1 a1x n1 c1 n1x c1x P Q W0 (H1.out.ext hE)).mono ?_
  rintro e u1 ⟨s3, a3, n3, c3, s4, a4, n4, c4, rfl, I3, I4, hx1⟩
  have hq1 := (Ext.alloc u1 (.cells #[.int .i64 s3, .slice a3 n3 c3] 24)).then (.cells #[.int .i64 s4, .slice a4 n4 c4] 24)
  have b3 := (box_new u1 s3 a3 n3 c3).ext (Ext.alloc _ (.cells #[.int .i64 s4, .slice a4 n4 c4] 24))
  have b4 := box_new (u1.alloc (.cells #[.int .i64 s3, .slice a3 n3 c3] 24)) s4 a4 n4 c4
  rw [show (u1.alloc (.cells #[.int .i64 s3, .slice a3 n3 c3] 24)).heap.size = u1.heap.size + 1 from by simp] at b4
  have qy1 := qy.ext (hx1.trans hq1)
  have lY : w.heap.size + 1 + 1 < u1.heap.size := (qr.ext hx1).lt
  have y0 := qy1.c0; have y1 := qy1.c1; have y2 := qy1.c2; have y3 := qy1.c3
  have J3 := I3.ext hq1; have J4 := I4.ext hq1
  have HE1 := hid (hE.trans (hx1.trans hq1)); have Hx1 := hid (hx1.trans hq1)
  have LY := hid lY
  clear I3 I4 hq1 hx1 qy1 lY
  go_wp2_with fail
  generalize (u1.alloc (.cells #[.int .i64 s3, .slice a3 n3 c3] 24)).alloc (.cells #[.int .i64 s4, .slice a4 n4 c4] 24) = W1 at *
  generalize u1.heap.size = A at *
  clear y0 y1 y2 y3
  refine (Parts_fr s2 s2x a2 a2x n2 c2 n2x c2x R S W1 (H2.out.ext HE1.out)).mono ?_
  rintro e u2 ⟨s5, a5, n5, c5, s6, a6, n6, c6, rfl, I5, I6, hx2⟩
  have hq2 := (Ext.alloc u2 (.cells #[.int .i64 s5, .slice a5 n5 c5] 24)).then (.cells #[.int .i64 s6, .slice a6 n6 c6] 24)
  have b5 := (box_new u2 s5 a5 n5 c5).ext (Ext.alloc _ (.cells #[.int .i64 s6, .slice a6 n6 c6] 24))
  have b6 := box_new (u2.alloc (.cells #[.int .i64 s5, .slice a5 n5 c5] 24)) s6 a6 n6 c6
  rw [show (u2.alloc (.cells #[.int .i64 s5, .slice a5 n5 c5] 24)).heap.size = u2.heap.size + 1 from by simp] at b6
  have lC : A + 1 < u2.heap.size := (b4.ext hx2).lt
  have b3 := b3.ext (hx2.trans hq2); have b4 := b4.ext (hx2.trans hq2)
  have IA := J3.ext (hx2.trans hq2); have IB := J4.ext (hx2.trans hq2); have IC := I5.ext hq2; have ID := I6.ext hq2
  have HE2 := hid (HE1.out.trans (hx2.trans hq2)); have Hx2 := hid (Hx1.out.trans (hx2.trans hq2))
  have LC := hid lC
  clear J3 J4 I5 I6 hq2 hx2 lC HE1 Hx1
  go_wp2_with fail
  generalize (u2.alloc (.cells #[.int .i64 s5, .slice a5 n5 c5] 24)).alloc (.cells #[.int .i64 s6, .slice a6 n6 c6] 24) = W2 at *
  generalize u2.heap.size = C at *
  have lY := LY.out; have lC := LC.out
  have qr := qr.ext Hx2.out; have lR := qr.lt
  have m0 := b3.c0; have m1 := b3.c1; have m2 := b4.c0; have m3 := b4.c1; have m4 := b5.c0; have m5 := b5.c1; have m6 := b6.c0; have m7 := b6.c1
  have lA := b3.lt; have lB := b4.lt; have lC' := b5.lt; have lD := b6.lt
  clear b3 b4 b5 b6 qy
  have h0d : Ext W2 W2.drew := Below.drew (Ext.refl _)
  go_region_held3 (fun w' => w'.cell? ⟨A, 0, none⟩ = some (.int .i64 s3) ∧ w'.cell? ⟨A, 1, none⟩ = some (.slice a3 n3 c3) ∧ w'.cell? ⟨A + 1, 0, none⟩ = some (.int .i64 s4) ∧ w'.cell? ⟨A + 1, 1, none⟩ = some (.slice a4 n4 c4) ∧ w'.cell? ⟨C, 0, none⟩ = some (.int .i64 s5) ∧ w'.cell? ⟨C, 1, none⟩ = some (.slice a5 n5 c5) ∧ w'.cell? ⟨C + 1, 0, none⟩ = some (.int .i64 s6) ∧ w'.cell? ⟨C + 1, 1, none⟩ = some (.slice a6 n6 c6))
    (exact ⟨by (repeat (refine cellPut (by omega) ?_)); exact cellKeep (W := W2) (by assumption) lA m0, by (repeat (refine cellPut (by omega) ?_)); exact cellKeep (W := W2) (by assumption) lA m1, by (repeat (refine cellPut (by omega) ?_)); exact cellKeep (W := W2) (by assumption) lB m2, by (repeat (refine cellPut (by omega) ?_)); exact cellKeep (W := W2) (by assumption) lB m3, by (repeat (refine cellPut (by omega) ?_)); exact cellKeep (W := W2) (by assumption) lC' m4, by (repeat (refine cellPut (by omega) ?_)); exact cellKeep (W := W2) (by assumption) lC' m5, by (repeat (refine cellPut (by omega) ?_)); exact cellKeep (W := W2) (by assumption) lD m6, by (repeat (refine cellPut (by omega) ?_)); exact cellKeep (W := W2) (by assumption) lD m7⟩)
    (first
      | (have _ := qv1; go_at_call 49; refine (lowest_fr sv0 sv1 ov0 ov1 mv0 jv0 mv1 jv1 (P * R) (Q * S) _ (Kv0.ext qv1) Kv1 K hK hK1 FX.out FT.out Hne.out (bru_ext Hbr.out (HE2.out.trans hv1))).mono ?_; rintro e v2 ⟨s9, a9, n9, c9, s8, a8, n8, c8, rfl, I9, qv2⟩; have hv2 : Ext W2 v2 := hv1.trans qv2; have R5 := qr.ext hv2; have k0 := R5.c0; have k1 := R5.c1; have k2 := R5.c2; have k3 := R5.c3; have f0 := R5.f0 0; have f1 := R5.f0 1; have f2 := R5.f0 2; have f3 := R5.f0 3)
      | (have _ := qv0; go_at_call 46; refine (Mul_any s4 s6 a4 a6 n4 c4 n6 c6 Q S _ (IB.ext hv0) (ID.ext hv0) K hK FQ.out FS.out).mono ?_; rintro e v1 ⟨sv1, ov1, mv1, jv1, rfl, Kv1, qv1⟩; have hv1 : Ext W2 v1 := hv0.trans qv1)
      | (go_at_call 46; refine (Mul_any s3 s5 a3 a5 n3 c3 n5 c5 P R _ (IA.ext (by assumption)) (IC.ext (by assumption)) K hK FP.out FR.out).mono ?_; rintro e v0 ⟨sv0, ov0, mv0, jv0, rfl, Kv0, qv0⟩; have hv0 : Ext W2 v0 := Ext.trans (by assumption) qv0))
  have hkk := Keep64.set4 (w := v2) (.i64 k0) (.slice k1) (.i64 k2) (.slice k3) (notW_i64 s9) (notW_slice a9 n9 c9) (notW_i64 s8) (.slice a8 n8 c8)
  have HI9 := hid (I9.keep64 hkk)
  clear hkk I9
  go_wp2_with fail
  exact bodyPost_ret (v := .agg #[.int .i64 s9, .slice a9 n9 c9, .int .i64 s8, .slice a8 n8 c8]) (by simp [results, Tryz.results21, go_sem, k0, k1, k2, k3]) rfl ⟨s9, a9, n9, c9, s8, a8, n8, c8, rfl, HI9.out, ((HE2.out.trans hv2).put2 (by omega) _ _).put2 (by omega) _ _⟩


set_option maxHeartbeats 4000000 in
set_option maxRecDepth 100000 in
theorem QQuo_any (s1 : Int) (a1 : Option Addr) (n1 c1 : Nat) (s1x : Int) (a1x : Option Addr) (n1x c1x : Nat) (s2 : Int) (a2 : Option Addr) (n2 c2 : Nat) (s2x : Int) (a2x : Option Addr) (n2x c2x : Nat) (P Q R S : Int) (w : World) (h1 : IsFr w s1 a1 n1 c1 s1x a1x n1x c1x P Q) (h2 : IsFr w s2 a2 n2 c2 s2x a2x n2x c2x R S) (K : Nat) (hK : K ≤ 4194304) (hK1 : 1 ≤ K) (fP : Fit K P) (fQ : Fit K Q) (fR : Fit K R) (fS : Fit K S) (fX : Fit K (P * S)) (fT : Fit K (Q * R)) (hbr : Bru w) :
    Calls Tryz.prog 13 #[.agg #[.int .i64 s1, .slice a1 n1 c1, .int .i64 s1x, .slice a1x n1x c1x], .agg #[.int .i64 s2, .slice a2 n2 c2, .int .i64 s2x, .slice a2x n2x c2x]] w (QRetF w (nfp (P * S) (Q * R)) (nfq (P * S) (Q * R)) (ovc (Q * R))) := by
  have FP := hid fP; have FQ := hid fQ; have FR := hid fR; have FS := hid fS
  clear fP fQ fR fS
  have FX := hid fX; have FT := hid fT; have Hbr := hid hbr
  clear fX fT hbr
  obtain ⟨oc, ho⟩ : ∃ oc, ovc (Q * R) = oc := ⟨_, rfl⟩
  rw [ho]
  have Ho := hid ho
  clear ho
  have H1 := hid h1; have H2 := hid h2
  clear h1 h2
  have hE : Ext w ((((w.alloc (.cells #[.int .i64 s1, .slice a1 n1 c1, .int .i64 s1x, .slice a1x n1x c1x] 26)).alloc (.cells #[.int .i64 s2, .slice a2 n2 c2, .int .i64 s2x, .slice a2x n2x c2x] 26)).alloc (.cells #[.int .i64 0, .slice none 0 0, .int .i64 0, .slice none 0 0] 26)).alloc (.cells #[.int .i64 0, .int .i64 0] 28)) := (((Ext.alloc w (.cells #[.int .i64 s1, .slice a1 n1 c1, .int .i64 s1x, .slice a1x n1x c1x] 26)).then (.cells #[.int .i64 s2, .slice a2 n2 c2, .int .i64 s2x, .slice a2x n2x c2x] 26)).then (.cells #[.int .i64 0, .slice none 0 0, .int .i64 0, .slice none 0 0] 26)).then (.cells #[.int .i64 0, .int .i64 0] 28)
  have qy := qbx_new (w.alloc (.cells #[.int .i64 s1, .slice a1 n1 c1, .int .i64 s1x, .slice a1x n1x c1x] 26)) s2 a2 n2 c2 s2x a2x n2x c2x
  rw [show (w.alloc (.cells #[.int .i64 s1, .slice a1 n1 c1, .int .i64 s1x, .slice a1x n1x c1x] 26)).heap.size = w.heap.size + 1 from by simp] at qy
  have qy := qy.ext (Ext.alloc _ (.cells #[.int .i64 0, .slice none 0 0, .int .i64 0, .slice none 0 0] 26))
  have qy := qy.ext (Ext.alloc _ (.cells #[.int .i64 0, .int .i64 0] 28))
  have qr : QRes (((w.alloc (.cells #[.int .i64 s1, .slice a1 n1 c1, .int .i64 s1x, .slice a1x n1x c1x] 26)).alloc (.cells #[.int .i64 s2, .slice a2 n2 c2, .int .i64 s2x, .slice a2x n2x c2x] 26)).alloc (.cells #[.int .i64 0, .slice none 0 0, .int .i64 0, .slice none 0 0] 26)) (w.heap.size + 1 + 1) := by
    have := heap_alloc_new ((w.alloc (.cells #[.int .i64 s1, .slice a1 n1 c1, .int .i64 s1x, .slice a1x n1x c1x] 26)).alloc (.cells #[.int .i64 s2, .slice a2 n2 c2, .int .i64 s2x, .slice a2x n2x c2x] 26)) (.cells #[.int .i64 0, .slice none 0 0, .int .i64 0, .slice none 0 0] 26)
    exact ⟨by simpa using this⟩
  have qr := qr.ext (Ext.alloc _ (.cells #[.int .i64 0, .int .i64 0] 28))
  have fr : FRes ((((w.alloc (.cells #[.int .i64 s1, .slice a1 n1 c1, .int .i64 s1x, .slice a1x n1x c1x] 26)).alloc (.cells #[.int .i64 s2, .slice a2 n2 c2, .int .i64 s2x, .slice a2x n2x c2x] 26)).alloc (.cells #[.int .i64 0, .slice none 0 0, .int .i64 0, .slice none 0 0] 26)).alloc (.cells #[.int .i64 0, .int .i64 0] 28)) (w.heap.size + 1 + 1 + 1) := by
    have := heap_alloc_new (((w.alloc (.cells #[.int .i64 s1, .slice a1 n1 c1, .int .i64 s1x, .slice a1x n1x c1x] 26)).alloc (.cells #[.int .i64 s2, .slice a2 n2 c2, .int .i64 s2x, .slice a2x n2x c2x] 26)).alloc (.cells #[.int .i64 0, .slice none 0 0, .int .i64 0, .slice none 0 0] 26)) (.cells #[.int .i64 0, .int .i64 0] 28)
    exact ⟨by simp, by simpa using this⟩
  go_enter Tryz.func13, Tryz.ntmps13
  go_wp2_with fail
  generalize (((w.alloc (.cells #[.int .i64 s1, .slice a1 n1 c1, .int .i64 s1x, .slice a1x n1x c1x] 26)).alloc (.cells #[.int .i64 s2, .slice a2 n2 c2, .int .i64 s2x, .slice a2x n2x c2x] 26)).alloc (.cells #[.int .i64 0, .slice none 0 0, .int .i64 0, .slice none 0 0] 26)).alloc (.cells #[.int .i64 0, .int .i64 0] 28) = W0 at *
  refine (Parts_fr s1 s1x a1 a1x n1 c1 n1x c1x P Q W0 (H1.out.ext hE)).mono ?_
  rintro e u1 ⟨s3, a3, n3, c3, s4, a4, n4, c4, rfl, I3, I4, hx1⟩
  have hq1 := (Ext.alloc u1 (.cells #[.int .i64 s3, .slice a3 n3 c3] 24)).then (.cells #[.int .i64 s4, .slice a4 n4 c4] 24)
  have b3 := (box_new u1 s3 a3 n3 c3).ext (Ext.alloc _ (.cells #[.int .i64 s4, .slice a4 n4 c4] 24))
  have b4 := box_new (u1.alloc (.cells #[.int .i64 s3, .slice a3 n3 c3] 24)) s4 a4 n4 c4
  rw [show (u1.alloc (.cells #[.int .i64 s3, .slice a3 n3 c3] 24)).heap.size = u1.heap.size + 1 from by simp] at b4
  have qy1 := qy.ext (hx1.trans hq1)
  have lY : w.heap.size + 1 + 1 + 1 < u1.heap.size := (fr.ext hx1).lt
  have y0 := qy1.c0; have y1 := qy1.c1; have y2 := qy1.c2; have y3 := qy1.c3
  have J3 := I3.ext hq1; have J4 := I4.ext hq1
  have HE1 := hid (hE.trans (hx1.trans hq1)); have Hx1 := hid (hx1.trans hq1)
  have LY := hid lY
  clear I3 I4 hq1 hx1 qy1 lY
  go_wp2_with fail
  generalize (u1.alloc (.cells #[.int .i64 s3, .slice a3 n3 c3] 24)).alloc (.cells #[.int .i64 s4, .slice a4 n4 c4] 24) = W1 at *
  generalize u1.heap.size = A at *
  clear y0 y1 y2 y3
  refine (Parts_fr s2 s2x a2 a2x n2 c2 n2x c2x R S W1 (H2.out.ext HE1.out)).mono ?_
  rintro e u2 ⟨s5, a5, n5, c5, s6, a6, n6, c6, rfl, I5, I6, hx2⟩
  have hq2 := (Ext.alloc u2 (.cells #[.int .i64 s5, .slice a5 n5 c5] 24)).then (.cells #[.int .i64 s6, .slice a6 n6 c6] 24)
  have b5 := (box_new u2 s5 a5 n5 c5).ext (Ext.alloc _ (.cells #[.int .i64 s6, .slice a6 n6 c6] 24))
  have b6 := box_new (u2.alloc (.cells #[.int .i64 s5, .slice a5 n5 c5] 24)) s6 a6 n6 c6
  rw [show (u2.alloc (.cells #[.int .i64 s5, .slice a5 n5 c5] 24)).heap.size = u2.heap.size + 1 from by simp] at b6
  have lC : A + 1 < u2.heap.size := (b4.ext hx2).lt
  have b3 := b3.ext (hx2.trans hq2); have b4 := b4.ext (hx2.trans hq2)
  have IA := J3.ext (hx2.trans hq2); have IB := J4.ext (hx2.trans hq2); have IC := I5.ext hq2; have ID := I6.ext hq2
  have HE2 := hid (HE1.out.trans (hx2.trans hq2)); have Hx2 := hid (Hx1.out.trans (hx2.trans hq2))
  have LC := hid lC
  clear J3 J4 I5 I6 hq2 hx2 lC HE1 Hx1
  go_wp2_with fail
  generalize (u2.alloc (.cells #[.int .i64 s5, .slice a5 n5 c5] 24)).alloc (.cells #[.int .i64 s6, .slice a6 n6 c6] 24) = W2 at *
  generalize u2.heap.size = C at *
  have lY := LY.out; have lC := LC.out
  have qr := qr.ext Hx2.out; have lR := qr.lt
  have fr := fr.ext Hx2.out; have lF := fr.lt
  have m0 := b3.c0; have m1 := b3.c1; have m2 := b4.c0; have m3 := b4.c1; have m4 := b5.c0; have m5 := b5.c1; have m6 := b6.c0; have m7 := b6.c1
  have lA := b3.lt; have lB := b4.lt; have lC' := b5.lt; have lD := b6.lt
  clear b3 b4 b5 b6 qy
  have h0d : Ext W2 W2.drew := Below.drew (Ext.refl _)
  go_region_held3 (fun w' => w'.cell? ⟨A, 0, none⟩ = some (.int .i64 s3) ∧ w'.cell? ⟨A, 1, none⟩ = some (.slice a3 n3 c3) ∧ w'.cell? ⟨A + 1, 0, none⟩ = some (.int .i64 s4) ∧ w'.cell? ⟨A + 1, 1, none⟩ = some (.slice a4 n4 c4) ∧ w'.cell? ⟨C, 0, none⟩ = some (.int .i64 s5) ∧ w'.cell? ⟨C, 1, none⟩ = some (.slice a5 n5 c5) ∧ w'.cell? ⟨C + 1, 0, none⟩ = some (.int .i64 s6) ∧ w'.cell? ⟨C + 1, 1, none⟩ = some (.slice a6 n6 c6))
    (exact ⟨by (repeat (refine cellPut (by omega) ?_)); exact cellKeep (W := W2) (by assumption) lA m0, by (repeat (refine cellPut (by omega) ?_)); exact cellKeep (W := W2) (by assumption) lA m1, by (repeat (refine cellPut (by omega) ?_)); exact cellKeep (W := W2) (by assumption) lB m2, by (repeat (refine cellPut (by omega) ?_)); exact cellKeep (W := W2) (by assumption) lB m3, by (repeat (refine cellPut (by omega) ?_)); exact cellKeep (W := W2) (by assumption) lC' m4, by (repeat (refine cellPut (by omega) ?_)); exact cellKeep (W := W2) (by assumption) lC' m5, by (repeat (refine cellPut (by omega) ?_)); exact cellKeep (W := W2) (by assumption) lD m6, by (repeat (refine cellPut (by omega) ?_)); exact cellKeep (W := W2) (by assumption) lD m7⟩)
    (first
      | (have _ := qv1; go_at_call 25; refine (Over_fr sv0 sv1 ov0 ov1 mv0 jv0 mv1 jv1 (P * S) (Q * R) _ (Kv0.ext qv1) Kv1 K hK hK1 FX.out FT.out (bru_ext Hbr.out (HE2.out.trans hv1))).mono ?_; rw [Ho.out]; rintro e v2 ⟨s9, a9, n9, c9, s8, a8, n8, c8, rfl, I9, qv2⟩; have hv2 : Ext W2 v2 := hv1.trans qv2; have R5 := qr.ext hv2; have k0 := R5.c0; have k1 := R5.c1; have k2 := R5.c2; have k3 := R5.c3; have f0 := R5.f0 0; have f1 := R5.f0 1; have f2 := R5.f0 2; have f3 := R5.f0 3; have F5 := fr.ext hv2; have k4 := F5.c0; have k5 := F5.c1; have f4 := F5.f0; have f5 := F5.f1)
      | (have _ := qv0; go_at_call 46; refine (Mul_any s4 s5 a4 a5 n4 c4 n5 c5 Q R _ (IB.ext hv0) (IC.ext hv0) K hK FQ.out FR.out).mono ?_; rintro e v1 ⟨sv1, ov1, mv1, jv1, rfl, Kv1, qv1⟩; have hv1 : Ext W2 v1 := hv0.trans qv1)
      | (go_at_call 46; refine (Mul_any s3 s6 a3 a6 n3 c3 n6 c6 P S _ (IA.ext (by assumption)) (ID.ext (by assumption)) K hK FP.out FS.out).mono ?_; rintro e v0 ⟨sv0, ov0, mv0, jv0, rfl, Kv0, qv0⟩; have hv0 : Ext W2 v0 := Ext.trans (by assumption) qv0))
  have hkk := Keep64.set6 (w := v2) (.i64 k0) (.slice k1) (.i64 k2) (.slice k3) (.i64 k4) (.i64 k5) (notW_i64 s9) (notW_slice a9 n9 c9) (notW_i64 s8) (notW_slice a8 n8 c8) (notW_i64 oc) (.int .i64 0)
  have HI9 := hid (I9.keep64 hkk)
  clear hkk I9
  go_wp2_with fail
  exact bodyPost_ret (v := .tuple #[.agg #[.int .i64 s9, .slice a9 n9 c9, .int .i64 s8, .slice a8 n8 c8], .agg #[.int .i64 oc, .int .i64 0]]) (by simp [results, Tryz.results13, go_sem, k0, k1, k2, k3, k4, k5]) rfl ⟨s9, a9, n9, c9, s8, a8, n8, c8, rfl, HI9.out, (((HE2.out.trans hv2).put2 (by omega) _ _).put2 (by omega) _ _).put2 (by omega) _ _⟩


end Go.Proofs.YtdiojbgbeeojkaaGreatDoor
