/-
  WholeFracs: the walk.
-/
import Derived.Test.YtdiojbgbeeojkaaGreatDoorMFv

namespace Go.Proofs.YtdiojbgbeeojkaaGreatDoor
open Go.RowKit

set_option maxHeartbeats 16000000 in
set_option maxRecDepth 100000 in
theorem fracs_walk (t1 t2 : ByteArray) (W : World) (ht1 : t1.size ≤ 9223372036854775807) (ht2 : t2.size ≤ 9223372036854775807) (htab : Ten W) (hbr : Bru W) :
    Calls Tryz.prog 3 #[.string t1, .string t2] W fun e w' => e = .returned (.bool true) ∧ Ext W w' := by
  obtain ⟨K, M, hK, hK1, hLM, hKt, hmul, hfit⟩ := lim_room
  have hfl : ∀ z : Int, z.natAbs < Lim → Fit K z := fun z hz => hfit z (by omega)
  obtain ⟨lP, lQ, pQ⟩ := f_lim (bs t1); obtain ⟨lR, lS, pS⟩ := f_lim (bs t2)
  obtain ⟨P, eP⟩ : ∃ P, fP (bs t1) = P := ⟨_, rfl⟩
  obtain ⟨Q, eQ⟩ : ∃ Q, fQ (bs t1) = Q := ⟨_, rfl⟩
  obtain ⟨p1, ep1⟩ : ∃ p1, fcode (bs t1) = p1 := ⟨_, rfl⟩
  obtain ⟨p1', ep1'⟩ : ∃ p1', fat (bs t1) = p1' := ⟨_, rfl⟩
  obtain ⟨R, eR⟩ : ∃ R, fP (bs t2) = R := ⟨_, rfl⟩
  obtain ⟨S, eS⟩ : ∃ S, fQ (bs t2) = S := ⟨_, rfl⟩
  obtain ⟨p2, ep2⟩ : ∃ p2, fcode (bs t2) = p2 := ⟨_, rfl⟩
  obtain ⟨p2', ep2'⟩ : ∃ p2', fat (bs t2) = p2' := ⟨_, rfl⟩
  rw [eP] at lP; rw [eQ] at lQ pQ; rw [eR] at lR; rw [eS] at lS pS
  have Hp1 := hid (fun wx hb => ParseFrac_is t1 wx ht1 K hK hK1 hfl hb P Q p1 p1' eP eQ ep1 ep1'); have Hp2 := hid (fun wx hb => ParseFrac_is t2 wx ht2 K hK hK1 hfl hb R S p2 p2' eR eS ep2 ep2')
  have Hz1 := hid (fun wx => FParse_is t1 wx ht1 K hKt hK1 hfl P Q p1 p1' eP eQ ep1 ep1'); have Hz2 := hid (fun wx => FParse_is t2 wx ht2 K hKt hK1 hfl R S p2 p2' eR eS ep2 ep2')
  have Hrm := hid (room_of lP lQ lR lS pQ pS hLM hmul hfit)
  have Htab := hid htab; have Hbr := hid hbr
  clear eP eQ ep1 ep1' eR eS ep2 ep2' lP lQ lR lS pQ pS hLM hmul hfit hfl htab hbr
  obtain ⟨aP, eaP⟩ : ∃ p, nfp (P * S + R * Q) (Q * S) = p := ⟨_, rfl⟩
  obtain ⟨aQ, eaQ⟩ : ∃ p, nfq (P * S + R * Q) (Q * S) = p := ⟨_, rfl⟩
  obtain ⟨dP, edP⟩ : ∃ p, nfp (P * S + -R * Q) (Q * S) = p := ⟨_, rfl⟩
  obtain ⟨dQ, edQ⟩ : ∃ p, nfq (P * S + -R * Q) (Q * S) = p := ⟨_, rfl⟩
  obtain ⟨mP, emP⟩ : ∃ p, nfp (P * R) (Q * S) = p := ⟨_, rfl⟩
  obtain ⟨mQ, emQ⟩ : ∃ p, nfq (P * R) (Q * S) = p := ⟨_, rfl⟩
  obtain ⟨uP, euP⟩ : ∃ p, nfp (P * S) (Q * R) = p := ⟨_, rfl⟩
  obtain ⟨uQ, euQ⟩ : ∃ p, nfq (P * S) (Q * R) = p := ⟨_, rfl⟩
  obtain ⟨oc, eoc⟩ : ∃ c, ovc (Q * R) = c := ⟨_, rfl⟩
  obtain ⟨k, ek⟩ : ∃ k, cmp3 (P * S) (R * Q) = k := ⟨_, rfl⟩
  have Zk : Hid (k = if P * S - R * Q < 0 then -1 else if 0 < P * S - R * Q then 1 else 0) := by show _ = _; rw [zcmp3]; exact ek.symm
  have FaP := hid Hrm.out.aP; have FaQ := hid Hrm.out.aQ; have FdP := hid Hrm.out.dP; have FdQ := hid Hrm.out.dQ; have FmP := hid Hrm.out.mP; have FmQ := hid Hrm.out.mQ; have FuP := hid Hrm.out.uP; have FuQ := hid Hrm.out.uQ
  rw [eaP] at FaP; rw [eaQ] at FaQ; rw [edP] at FdP; rw [edQ] at FdQ; rw [emP] at FmP; rw [emQ] at FmQ; rw [euP] at FuP; rw [euQ] at FuQ
  have EaP := hid eaP; have EaQ := hid eaQ; have EdP := hid edP; have EdQ := hid edQ; have EmP := hid emP; have EmQ := hid emQ; have EuP := hid euP; have EuQ := hid euQ; have Eoc := hid eoc; have Ek := hid ek
  have FP := hid Hrm.out.fP; have FQ := hid Hrm.out.fQ; have FR := hid Hrm.out.fR; have FS := hid Hrm.out.fS
  clear eaP eaQ edP edQ emP emQ euP euQ eoc ek
  have hr1 : (p1 == p1) = true := by simp
  have hro : (oc == oc) = true := by simp
  have hrk : (k == k) = true := by simp
  go_enter Tryz.func3, Tryz.ntmps3
  go_wp2_with fail
  refine (Hp1.out _ Hbr.out).mono ?_
  rintro e w1 ⟨s1, a1, n1, c1, s1x, a1x, n1x, c1x, rfl, I, hx⟩
  have bA := qbx2_new w1 s1 a1 n1 c1 s1x a1x n1x c1x (.int .i64 p1) (.int .i64 p1')
  have fA := fbq_new w1 (.cells #[.int .i64 s1, .slice a1 n1 c1, .int .i64 s1x, .slice a1x n1x c1x] 26) p1 p1'
  have hq := hx.trans (ext2_new w1 (.cells #[.int .i64 s1, .slice a1 n1 c1, .int .i64 s1x, .slice a1x n1x c1x] 26) (.cells #[.int .i64 p1, .int .i64 p1'] 28))
  have IA := I.ext (ext2_new w1 (.cells #[.int .i64 s1, .slice a1 n1 c1, .int .i64 s1x, .slice a1x n1x c1x] 26) (.cells #[.int .i64 p1, .int .i64 p1'] 28))
  have gA : W.heap.size ≤ w1.heap.size := hx.size
  have HE1 := hid (hq)
  clear I hq hx
  go_wp2_with fail
  generalize (w1.alloc (.cells #[.int .i64 s1, .slice a1 n1 c1, .int .i64 s1x, .slice a1x n1x c1x] 26)).alloc (.cells #[.int .i64 p1, .int .i64 p1'] 28) = W1 at *
  generalize w1.heap.size = A at *
  refine (Hp2.out _ (bru_ext Hbr.out HE1.out)).mono ?_
  rintro e w2 ⟨s2, a2, n2, c2, s2x, a2x, n2x, c2x, rfl, I, hx⟩
  have bB := qbx2_new w2 s2 a2 n2 c2 s2x a2x n2x c2x (.int .i64 p2) (.int .i64 p2')
  have fB := fbq_new w2 (.cells #[.int .i64 s2, .slice a2 n2 c2, .int .i64 s2x, .slice a2x n2x c2x] 26) p2 p2'
  have hq := hx.trans (ext2_new w2 (.cells #[.int .i64 s2, .slice a2 n2 c2, .int .i64 s2x, .slice a2x n2x c2x] 26) (.cells #[.int .i64 p2, .int .i64 p2'] 28))
  have IB := I.ext (ext2_new w2 (.cells #[.int .i64 s2, .slice a2 n2 c2, .int .i64 s2x, .slice a2x n2x c2x] 26) (.cells #[.int .i64 p2, .int .i64 p2'] 28))
  have gB : A + 1 < w2.heap.size := Nat.lt_of_lt_of_le fA.lt hx.size
  have bA := bA.ext hq; have fA := fA.ext hq; have IA := IA.ext hq
  have HE2 := hid (HE1.out.trans hq)
  clear I hq hx
  go_wp2_with fail
  generalize (w2.alloc (.cells #[.int .i64 s2, .slice a2 n2 c2, .int .i64 s2x, .slice a2x n2x c2x] 26)).alloc (.cells #[.int .i64 p2, .int .i64 p2'] 28) = W2 at *
  generalize w2.heap.size = B at *
  refine (Hz1.out _).mono ?_
  rintro e w3 ⟨b3, a3, n3, c3, b3x, a3x, n3x, c3x, rfl, I, Ix, l3, l3x, hx⟩
  have bC := fzbx2_new w3 b3 a3 n3 c3 b3x a3x n3x c3x (.int .i64 p1) (.int .i64 p1')
  have fC := fbq_new w3 (.cells #[.bool b3, .slice a3 n3 c3, .bool b3x, .slice a3x n3x c3x] 35) p1 p1'
  have hq := hx.trans (ext2_new w3 (.cells #[.bool b3, .slice a3 n3 c3, .bool b3x, .slice a3x n3x c3x] 35) (.cells #[.int .i64 p1, .int .i64 p1'] 28))
  have IC := I.ext (ext2_new w3 (.cells #[.bool b3, .slice a3 n3 c3, .bool b3x, .slice a3x n3x c3x] 35) (.cells #[.int .i64 p1, .int .i64 p1'] 28))
  have ICx := Ix.ext (ext2_new w3 (.cells #[.bool b3, .slice a3 n3 c3, .bool b3x, .slice a3x n3x c3x] 35) (.cells #[.int .i64 p1, .int .i64 p1'] 28))
  have gC : B + 1 < w3.heap.size := Nat.lt_of_lt_of_le fB.lt hx.size
  have bA := bA.ext hq; have fA := fA.ext hq; have IA := IA.ext hq
  have bB := bB.ext hq; have fB := fB.ext hq; have IB := IB.ext hq
  have HE3 := hid (HE2.out.trans hq)
  clear I hq hx Ix
  go_wp2_with fail
  generalize (w3.alloc (.cells #[.bool b3, .slice a3 n3 c3, .bool b3x, .slice a3x n3x c3x] 35)).alloc (.cells #[.int .i64 p1, .int .i64 p1'] 28) = W3 at *
  generalize w3.heap.size = C at *
  refine (Hz2.out _).mono ?_
  rintro e w4 ⟨b4, a4, n4, c4, b4x, a4x, n4x, c4x, rfl, I, Ix, l4, l4x, hx⟩
  have bD := fzbx2_new w4 b4 a4 n4 c4 b4x a4x n4x c4x (.int .i64 p2) (.int .i64 p2')
  have fD := fbq_new w4 (.cells #[.bool b4, .slice a4 n4 c4, .bool b4x, .slice a4x n4x c4x] 35) p2 p2'
  have hq := hx.trans (ext2_new w4 (.cells #[.bool b4, .slice a4 n4 c4, .bool b4x, .slice a4x n4x c4x] 35) (.cells #[.int .i64 p2, .int .i64 p2'] 28))
  have ID := I.ext (ext2_new w4 (.cells #[.bool b4, .slice a4 n4 c4, .bool b4x, .slice a4x n4x c4x] 35) (.cells #[.int .i64 p2, .int .i64 p2'] 28))
  have IDx := Ix.ext (ext2_new w4 (.cells #[.bool b4, .slice a4 n4 c4, .bool b4x, .slice a4x n4x c4x] 35) (.cells #[.int .i64 p2, .int .i64 p2'] 28))
  have gD : C + 1 < w4.heap.size := Nat.lt_of_lt_of_le fC.lt hx.size
  have bA := bA.ext hq; have fA := fA.ext hq; have IA := IA.ext hq
  have bB := bB.ext hq; have fB := fB.ext hq; have IB := IB.ext hq
  have bC := bC.ext hq; have fC := fC.ext hq; have IC := IC.ext hq; have ICx := ICx.ext hq
  have HE4 := hid (HE3.out.trans hq)
  clear I hq hx Ix
  go_wp2_with fail
  generalize (w4.alloc (.cells #[.bool b4, .slice a4 n4 c4, .bool b4x, .slice a4x n4x c4x] 35)).alloc (.cells #[.int .i64 p2, .int .i64 p2'] 28) = W4 at *
  generalize w4.heap.size = D at *
  have F0 : Fv W W4 A B C D s1 a1 n1 c1 s1x a1x n1x c1x s2 a2 n2 c2 s2x a2x n2x c2x b3 a3 n3 c3 b3x a3x n3x c3x b4 a4 n4 c4 b4x a4x n4x c4x P Q R S p1 p1' p1 p1' := ⟨bA, bB, bC, bD, fA, fC, IA, IB, IC, ICx, ID, IDx, HE4.out, ⟨gA, gB, gC, gD⟩⟩
  have HF0 := hid F0; have HfB := hid fB; have HfD := hid fD
  clear F0 bA bB bC bD fA fB fC fD IA IB IC ICx ID IDx gA gB gC gD HE1 HE2 HE3 HE4 Hp1 Hp2 Hz1 Hz2
  have h0d : Ext W4 W4.drew := Below.drew (Ext.refl _)
  have m0 := HF0.out.fA.c0
  have m1 := HF0.out.fA.c1
  have lf := HF0.out.fA.lt
  have m2 := HF0.out.fC.c0
  have m3 := HF0.out.fC.c1
  have lrf := HF0.out.fC.lt
  have m4 := HfB.out.c0
  have m5 := HfB.out.c1
  have lg := HfB.out.lt
  have m6 := HfD.out.c0
  have m7 := HfD.out.c1
  have lrg := HfD.out.lt
  have m8 := HF0.out.qA.c0
  have m9 := HF0.out.qA.c1
  have m10 := HF0.out.qA.c2
  have m11 := HF0.out.qA.c3
  have lA := HF0.out.qA.lt
  have m12 := HF0.out.zC.c0
  have m13 := HF0.out.zC.c1
  have m14 := HF0.out.zC.c2
  have m15 := HF0.out.zC.c3
  have lC := HF0.out.zC.lt
  have m16 := HF0.out.qB.c0
  have m17 := HF0.out.qB.c1
  have m18 := HF0.out.qB.c2
  have m19 := HF0.out.qB.c3
  have lB := HF0.out.qB.lt
  have m20 := HF0.out.zD.c0
  have m21 := HF0.out.zD.c1
  have m22 := HF0.out.zD.c2
  have m23 := HF0.out.zD.c3
  have lD := HF0.out.zD.lt
  have hr2 : (p2 == p2) = true := by simp
  have hE4 := hid HF0.out.E
  have IX := HF0.out.IX; have IY := HF0.out.IY; have i3 := HF0.out.i3; have i3x := HF0.out.i3x; have i4 := HF0.out.i4; have i4x := HF0.out.i4x
  go_region_held3 (fun w' => w'.cell? ⟨A + 1, 0, none⟩ = some (.int .i64 p1) ∧ w'.cell? ⟨A + 1, 1, none⟩ = some (.int .i64 p1') ∧ w'.cell? ⟨C + 1, 0, none⟩ = some (.int .i64 p1) ∧ w'.cell? ⟨C + 1, 1, none⟩ = some (.int .i64 p1') ∧ w'.cell? ⟨B + 1, 0, none⟩ = some (.int .i64 p2) ∧ w'.cell? ⟨B + 1, 1, none⟩ = some (.int .i64 p2') ∧ w'.cell? ⟨D + 1, 0, none⟩ = some (.int .i64 p2) ∧ w'.cell? ⟨D + 1, 1, none⟩ = some (.int .i64 p2') ∧ w'.cell? ⟨A, 0, none⟩ = some (.int .i64 s1) ∧ w'.cell? ⟨A, 1, none⟩ = some (.slice a1 n1 c1) ∧ w'.cell? ⟨A, 2, none⟩ = some (.int .i64 s1x) ∧ w'.cell? ⟨A, 3, none⟩ = some (.slice a1x n1x c1x) ∧ w'.cell? ⟨C, 0, none⟩ = some (.bool b3) ∧ w'.cell? ⟨C, 1, none⟩ = some (.slice a3 n3 c3) ∧ w'.cell? ⟨C, 2, none⟩ = some (.bool b3x) ∧ w'.cell? ⟨C, 3, none⟩ = some (.slice a3x n3x c3x) ∧ w'.cell? ⟨B, 0, none⟩ = some (.int .i64 s2) ∧ w'.cell? ⟨B, 1, none⟩ = some (.slice a2 n2 c2) ∧ w'.cell? ⟨B, 2, none⟩ = some (.int .i64 s2x) ∧ w'.cell? ⟨B, 3, none⟩ = some (.slice a2x n2x c2x) ∧ w'.cell? ⟨D, 0, none⟩ = some (.bool b4) ∧ w'.cell? ⟨D, 1, none⟩ = some (.slice a4 n4 c4) ∧ w'.cell? ⟨D, 2, none⟩ = some (.bool b4x) ∧ w'.cell? ⟨D, 3, none⟩ = some (.slice a4x n4x c4x))
    (exact ⟨cellKeep (W := W4) (by assumption) lf m0, cellKeep (W := W4) (by assumption) lf m1, cellKeep (W := W4) (by assumption) lrf m2, cellKeep (W := W4) (by assumption) lrf m3, cellKeep (W := W4) (by assumption) lg m4, cellKeep (W := W4) (by assumption) lg m5, cellKeep (W := W4) (by assumption) lrg m6, cellKeep (W := W4) (by assumption) lrg m7, cellKeep (W := W4) (by assumption) lA m8, cellKeep (W := W4) (by assumption) lA m9, cellKeep (W := W4) (by assumption) lA m10, cellKeep (W := W4) (by assumption) lA m11, cellKeep (W := W4) (by assumption) lC m12, cellKeep (W := W4) (by assumption) lC m13, cellKeep (W := W4) (by assumption) lC m14, cellKeep (W := W4) (by assumption) lC m15, cellKeep (W := W4) (by assumption) lB m16, cellKeep (W := W4) (by assumption) lB m17, cellKeep (W := W4) (by assumption) lB m18, cellKeep (W := W4) (by assumption) lB m19, cellKeep (W := W4) (by assumption) lD m20, cellKeep (W := W4) (by assumption) lD m21, cellKeep (W := W4) (by assumption) lD m22, cellKeep (W := W4) (by assumption) lD m23⟩)
    (first
      | (have _ := qv3; go_at_call 9; refine (FText_any b4 a4 n4 c4 b4x a4x n4x c4x R S _ (i4.ext hv3) (i4x.ext hv3) (by omega) (by omega) K hKt hK1 FR.out FS.out).mono ?_; rintro e v4 ⟨rfl, qv4⟩; have hv4 : Ext W4 v4 := hv3.trans qv4)
      | (have _ := qv2; go_at_call 8; refine (QText_any s2 a2 n2 c2 s2x a2x n2x c2x R S _ (IY.ext hv2) K hKt hK1 FR.out FS.out (tab_ext Htab.out (hE4.out.trans hv2))).mono ?_; rintro e v3 ⟨rfl, qv3⟩; have hv3 : Ext W4 v3 := hv2.trans qv3)
      | (have _ := qv1; go_at_call 9; refine (FText_any b3 a3 n3 c3 b3x a3x n3x c3x P Q _ (i3.ext hv1) (i3x.ext hv1) (by omega) (by omega) K hKt hK1 FP.out FQ.out).mono ?_; rintro e v2 ⟨rfl, qv2⟩; have hv2 : Ext W4 v2 := hv1.trans qv2)
      | (have _ := qv0; go_at_call 8; refine (QText_any s1 a1 n1 c1 s1x a1x n1x c1x P Q _ (IX.ext hv0) K hKt hK1 FP.out FQ.out (tab_ext Htab.out (hE4.out.trans hv0))).mono ?_; rintro e v1 ⟨rfl, qv1⟩; have hv1 : Ext W4 v1 := hv0.trans qv1)
      | (go_at_call 7; refine (wholeBegun_any _ (tab_ext Htab.out (hE4.out.trans (by assumption)))).mono ?_; rintro e v0 ⟨rfl, qv0⟩; have hv0 : Ext W4 v0 := Ext.trans (by assumption) qv0))
  have HF1 := hid (HF0.out.ext hv4)
  clear m0 m1 m2 m3 m4 m5 m6 m7 m8 m9 m10 m11 m12 m13 m14 m15 m16 m17 m18 m19 m20 m21 m22 m23 lf lrf lg lrg lA lB lC lD HF0 HfB HfD hE4 IX IY i3 i3x i4 i4x h0d hr1 hr2 hv0 qv0 hv1 qv1 hv2 qv2 hv3 qv3 hv4 qv4
  have x0 := HF1.out.qA.c0; have x1 := HF1.out.qA.c1; have x2 := HF1.out.qA.c2; have x3 := HF1.out.qA.c3
  go_wp2_with fail
  refine (Parts_fr s1 s1x a1 a1x n1 c1 n1x c1x P Q v4 HF1.out.IX).mono ?_
  rintro e u5 ⟨s5, a5, n5, c5, s6, a6, n6, c6, rfl, I5, I6, hx5⟩
  clear x0 x1 x2 x3
  have hq5 := (Ext.alloc u5 (.cells #[.int .i64 s5, .slice a5 n5 c5] 24)).then (.cells #[.int .i64 s6, .slice a6 n6 c6] 24)
  have b5 := (box_new u5 s5 a5 n5 c5).ext (Ext.alloc _ (.cells #[.int .i64 s6, .slice a6 n6 c6] 24))
  have b6 := box_new (u5.alloc (.cells #[.int .i64 s5, .slice a5 n5 c5] 24)) s6 a6 n6 c6
  rw [show (u5.alloc (.cells #[.int .i64 s5, .slice a5 n5 c5] 24)).heap.size = u5.heap.size + 1 from by simp] at b6
  have HF2 := hid (HF1.out.ext (hx5.trans hq5))
  have I5 := I5.ext hq5; have I6 := I6.ext hq5
  have len5 := I5.len FP.out; have len6 := I6.len FQ.out
  clear hq5 hx5 HF1
  go_wp2_with fail
  generalize (u5.alloc (.cells #[.int .i64 s5, .slice a5 n5 c5] 24)).alloc (.cells #[.int .i64 s6, .slice a6 n6 c6] 24) = W5 at *
  generalize u5.heap.size = T at *
  have h0d : Ext W5 W5.drew := Below.drew (Ext.refl _)
  have m0 := b5.c0
  have m1 := b5.c1
  have l5 := b5.lt
  have m2 := b6.c0
  have m3 := b6.c1
  have l6 := b6.lt
  have m4 := HF2.out.zC.c0
  have m5 := HF2.out.zC.c1
  have m6 := HF2.out.zC.c2
  have m7 := HF2.out.zC.c3
  have lC := HF2.out.zC.lt
  have hE5 := hid HF2.out.E
  have i3 := HF2.out.i3; have i3x := HF2.out.i3x
  clear b5 b6
  go_region_held3 (fun w' => w'.cell? ⟨T, 0, none⟩ = some (.int .i64 s5) ∧ w'.cell? ⟨T, 1, none⟩ = some (.slice a5 n5 c5) ∧ w'.cell? ⟨T + 1, 0, none⟩ = some (.int .i64 s6) ∧ w'.cell? ⟨T + 1, 1, none⟩ = some (.slice a6 n6 c6) ∧ w'.cell? ⟨C, 0, none⟩ = some (.bool b3) ∧ w'.cell? ⟨C, 1, none⟩ = some (.slice a3 n3 c3) ∧ w'.cell? ⟨C, 2, none⟩ = some (.bool b3x) ∧ w'.cell? ⟨C, 3, none⟩ = some (.slice a3x n3x c3x))
    (exact ⟨cellKeep (W := W5) (by assumption) l5 m0, cellKeep (W := W5) (by assumption) l5 m1, cellKeep (W := W5) (by assumption) l6 m2, cellKeep (W := W5) (by assumption) l6 m3, cellKeep (W := W5) (by assumption) lC m4, cellKeep (W := W5) (by assumption) lC m5, cellKeep (W := W5) (by assumption) lC m6, cellKeep (W := W5) (by assumption) lC m7⟩)
    (first
      | (have _ := qr2; go_at_call 12; refine (ZText_any b3x a3x n3x c3x Q _ (i3x.ext hr2) (by omega)).mono ?_; rintro e r3 ⟨rfl, qr3⟩; have hr3 : Ext W5 r3 := hr2.trans qr3)
      | (have _ := qr1; go_at_call 11; refine (Text_any s6 a6 n6 c6 Q _ (I6.ext hr1) (by omega) (tab_ext Htab.out (hE5.out.trans hr1))).mono ?_; rintro e r2 ⟨rfl, qr2⟩; have hr2 : Ext W5 r2 := hr1.trans qr2)
      | (have _ := qr0; go_at_call 12; refine (ZText_any b3 a3 n3 c3 P _ (i3.ext hr0) (by omega)).mono ?_; rintro e r1 ⟨rfl, qr1⟩; have hr1 : Ext W5 r1 := hr0.trans qr1)
      | (go_at_call 11; refine (Text_any s5 a5 n5 c5 P _ (I5.ext (by assumption)) (by omega) (tab_ext Htab.out (hE5.out.trans (by assumption)))).mono ?_; rintro e r0 ⟨rfl, qr0⟩; have hr0 : Ext W5 r0 := Ext.trans (by assumption) qr0))
  have HF3 := hid (HF2.out.ext hr3)
  clear m0 m1 m2 m3 m4 m5 m6 m7 l5 l6 lC HF2 hE5 i3 i3x I5 I6 h0d hr0 qr0 hr1 qr1 hr2 qr2 hr3 qr3
  have x0 := HF3.out.qA.c0; have x1 := HF3.out.qA.c1; have x2 := HF3.out.qA.c2; have x3 := HF3.out.qA.c3
  have y0 := HF3.out.qB.c0; have y1 := HF3.out.qB.c1; have y2 := HF3.out.qB.c2; have y3 := HF3.out.qB.c3
  go_wp2_with fail
  refine (QQuo_is s1 a1 n1 c1 s1x a1x n1x c1x s2 a2 n2 c2 s2x a2x n2x c2x P Q R S r3 HF3.out.IX HF3.out.IY K hK hK1 Hrm.out (bru_ext Hbr.out HF3.out.E) uP uQ oc EuP.out EuQ.out Eoc.out).mono ?_
  rintro e u7 ⟨s7, a7, n7, c7, s7x, a7x, n7x, c7x, rfl, I7, hx7⟩
  clear x0 x1 x2 x3 y0 y1 y2 y3
  have hq7 := Ext.alloc u7 (.cells #[.int .i64 s7, .slice a7 n7 c7, .int .i64 s7x, .slice a7x n7x c7x] 26)
  have b7 := qbx_new u7 s7 a7 n7 c7 s7x a7x n7x c7x
  have F4 := HF3.out.ext (hx7.trans hq7)
  have lD7 : D < u7.heap.size := (HF3.out.ext hx7).zD.lt
  have hn := F4.ne
  have g0 := F4.fA.c0; have g1 := F4.fA.c1; have h0 := F4.fA.f0 0; have h1 := F4.fA.f0 1
  have HF5 := hid (F4.putF oc 0)
  have Hb7 := hid (b7.only (only2 _ (A + 1) (.int .i64 oc) (.int .i64 0)) (by omega))
  have HI7 := hid ((I7.ext hq7).keep64 (keepF64 F4.fA oc 0))
  have HL7 := hid lD7; have Hn := hid hn
  have x0 := HF5.out.zC.c0; have x1 := HF5.out.zC.c1; have x2 := HF5.out.zC.c2; have x3 := HF5.out.zC.c3
  have y0 := HF5.out.zD.c0; have y1 := HF5.out.zD.c1; have y2 := HF5.out.zD.c2; have y3 := HF5.out.zD.c3
  clear F4 b7 I7 hq7 hx7 lD7 hn HF3
  go_wp2_with fail
  generalize ((u7.alloc (.cells #[.int .i64 s7, .slice a7 n7 c7, .int .i64 s7x, .slice a7x n7x c7x] 26)).setCell ⟨A + 1, 0, none⟩ (.int .i64 oc)).setCell ⟨A + 1, 1, none⟩ (.int .i64 0) = W7 at *
  generalize u7.heap.size = U at *
  clear g0 g1 h0 h1
  refine (FQuo_is b3 a3 n3 c3 b3x a3x n3x c3x b4 a4 n4 c4 b4x a4x n4x c4x P Q R S W7 HF5.out.i3 HF5.out.i3x HF5.out.i4 HF5.out.i4x (by omega) (by omega) (by omega) (by omega) uP uQ oc EuP.out EuQ.out Eoc.out).mono ?_
  rintro e u8 ⟨b8, a8, n8, c8, b8x, a8x, n8x, c8x, rfl, I8, I8x, l8, l8x, hx8⟩
  clear x0 x1 x2 x3 y0 y1 y2 y3
  have hq8 := ext_alloc u8 (.cells #[.bool b8, .slice a8 n8 c8, .bool b8x, .slice a8x n8x c8x] 35)
  have b8' := fzbx_new u8 b8 a8 n8 c8 b8x a8x n8x c8x
  have F6 := HF5.out.ext (hx8.trans hq8)
  have lU : U < u8.heap.size := (Hb7.out.ext hx8).lt
  have hn := Hn.out; have hL7 := HL7.out
  have g0 := F6.fC.c0; have g1 := F6.fC.c1; have h0 := F6.fC.f0 0; have h1 := F6.fC.f0 1
  have HF7 := hid (F6.putR oc 0)
  have hO := only2 (u8.alloc (.cells #[.bool b8, .slice a8 n8 c8, .bool b8x, .slice a8x n8x c8x] 35)) (C + 1) (.int .i64 oc) (.int .i64 0)
  have Hb7 := hid ((Hb7.out.ext (hx8.trans hq8)).only hO (by omega)); have Hb8 := hid (b8'.only hO (by omega))
  have HI7 := hid ((HI7.out.ext (hx8.trans hq8)).keep64 (keepF64 F6.fC oc 0))
  have HI8 := hid (isZ_keepF (I8.ext hq8) F6.fC oc 0); have HI8x := hid (isZ_keepF (I8x.ext hq8) F6.fC oc 0)
  clear F6 b8' I8 I8x hq8 hx8 lU hn hL7 hO HF5 HL7
  go_wp2_with fail
  generalize ((u8.alloc (.cells #[.bool b8, .slice a8 n8 c8, .bool b8x, .slice a8x n8x c8x] 35)).setCell ⟨C + 1, 0, none⟩ (.int .i64 oc)).setCell ⟨C + 1, 1, none⟩ (.int .i64 0) = W8 at *
  generalize u8.heap.size = V at *
  clear g0 g1 h0 h1
  have h0d : Ext W8 W8.drew := Below.drew (Ext.refl _)
  have m0 := HF7.out.fA.c0
  have m1 := HF7.out.fA.c1
  have lf := HF7.out.fA.lt
  have m2 := HF7.out.fC.c0
  have m3 := HF7.out.fC.c1
  have lrf := HF7.out.fC.lt
  have m4 := Hb7.out.c0
  have m5 := Hb7.out.c1
  have m6 := Hb7.out.c2
  have m7 := Hb7.out.c3
  have lU := Hb7.out.lt
  have m8 := Hb8.out.c0
  have m9 := Hb8.out.c1
  have m10 := Hb8.out.c2
  have m11 := Hb8.out.c3
  have lV := Hb8.out.lt
  have m12 := HF7.out.qA.c0
  have m13 := HF7.out.qA.c1
  have m14 := HF7.out.qA.c2
  have m15 := HF7.out.qA.c3
  have lA := HF7.out.qA.lt
  have m16 := HF7.out.zC.c0
  have m17 := HF7.out.zC.c1
  have m18 := HF7.out.zC.c2
  have m19 := HF7.out.zC.c3
  have lC := HF7.out.zC.lt
  have m20 := HF7.out.qB.c0
  have m21 := HF7.out.qB.c1
  have m22 := HF7.out.qB.c2
  have m23 := HF7.out.qB.c3
  have lB := HF7.out.qB.lt
  have m24 := HF7.out.zD.c0
  have m25 := HF7.out.zD.c1
  have m26 := HF7.out.zD.c2
  have m27 := HF7.out.zD.c3
  have lD := HF7.out.zD.lt
  have hE8 := hid HF7.out.E
  have IX := HF7.out.IX; have IY := HF7.out.IY; have i3 := HF7.out.i3; have i3x := HF7.out.i3x; have i4 := HF7.out.i4; have i4x := HF7.out.i4x
  have I7 := HI7.out; have I8 := HI8.out; have I8x := HI8x.out
  go_region_held3 (fun w' => w'.cell? ⟨A + 1, 0, none⟩ = some (.int .i64 oc) ∧ w'.cell? ⟨A + 1, 1, none⟩ = some (.int .i64 0) ∧ w'.cell? ⟨C + 1, 0, none⟩ = some (.int .i64 oc) ∧ w'.cell? ⟨C + 1, 1, none⟩ = some (.int .i64 0) ∧ w'.cell? ⟨U, 0, none⟩ = some (.int .i64 s7) ∧ w'.cell? ⟨U, 1, none⟩ = some (.slice a7 n7 c7) ∧ w'.cell? ⟨U, 2, none⟩ = some (.int .i64 s7x) ∧ w'.cell? ⟨U, 3, none⟩ = some (.slice a7x n7x c7x) ∧ w'.cell? ⟨V, 0, none⟩ = some (.bool b8) ∧ w'.cell? ⟨V, 1, none⟩ = some (.slice a8 n8 c8) ∧ w'.cell? ⟨V, 2, none⟩ = some (.bool b8x) ∧ w'.cell? ⟨V, 3, none⟩ = some (.slice a8x n8x c8x) ∧ w'.cell? ⟨A, 0, none⟩ = some (.int .i64 s1) ∧ w'.cell? ⟨A, 1, none⟩ = some (.slice a1 n1 c1) ∧ w'.cell? ⟨A, 2, none⟩ = some (.int .i64 s1x) ∧ w'.cell? ⟨A, 3, none⟩ = some (.slice a1x n1x c1x) ∧ w'.cell? ⟨C, 0, none⟩ = some (.bool b3) ∧ w'.cell? ⟨C, 1, none⟩ = some (.slice a3 n3 c3) ∧ w'.cell? ⟨C, 2, none⟩ = some (.bool b3x) ∧ w'.cell? ⟨C, 3, none⟩ = some (.slice a3x n3x c3x) ∧ w'.cell? ⟨B, 0, none⟩ = some (.int .i64 s2) ∧ w'.cell? ⟨B, 1, none⟩ = some (.slice a2 n2 c2) ∧ w'.cell? ⟨B, 2, none⟩ = some (.int .i64 s2x) ∧ w'.cell? ⟨B, 3, none⟩ = some (.slice a2x n2x c2x) ∧ w'.cell? ⟨D, 0, none⟩ = some (.bool b4) ∧ w'.cell? ⟨D, 1, none⟩ = some (.slice a4 n4 c4) ∧ w'.cell? ⟨D, 2, none⟩ = some (.bool b4x) ∧ w'.cell? ⟨D, 3, none⟩ = some (.slice a4x n4x c4x))
    (exact ⟨cellKeep (W := W8) (by assumption) lf m0, cellKeep (W := W8) (by assumption) lf m1, cellKeep (W := W8) (by assumption) lrf m2, cellKeep (W := W8) (by assumption) lrf m3, cellKeep (W := W8) (by assumption) lU m4, cellKeep (W := W8) (by assumption) lU m5, cellKeep (W := W8) (by assumption) lU m6, cellKeep (W := W8) (by assumption) lU m7, cellKeep (W := W8) (by assumption) lV m8, cellKeep (W := W8) (by assumption) lV m9, cellKeep (W := W8) (by assumption) lV m10, cellKeep (W := W8) (by assumption) lV m11, cellKeep (W := W8) (by assumption) lA m12, cellKeep (W := W8) (by assumption) lA m13, cellKeep (W := W8) (by assumption) lA m14, cellKeep (W := W8) (by assumption) lA m15, cellKeep (W := W8) (by assumption) lC m16, cellKeep (W := W8) (by assumption) lC m17, cellKeep (W := W8) (by assumption) lC m18, cellKeep (W := W8) (by assumption) lC m19, cellKeep (W := W8) (by assumption) lB m20, cellKeep (W := W8) (by assumption) lB m21, cellKeep (W := W8) (by assumption) lB m22, cellKeep (W := W8) (by assumption) lB m23, cellKeep (W := W8) (by assumption) lD m24, cellKeep (W := W8) (by assumption) lD m25, cellKeep (W := W8) (by assumption) lD m26, cellKeep (W := W8) (by assumption) lD m27⟩)
    (first
      | (have _ := qp2; go_at_call 16; refine (FCmp_any b3 a3 n3 c3 b3x a3x n3x c3x b4 a4 n4 c4 b4x a4x n4x c4x P Q R S _ (i3.ext hp2) (i3x.ext hp2) (i4.ext hp2) (i4x.ext hp2) (by omega) (by omega) (by omega) (by omega) k Zk.out).mono ?_; rintro e p3 ⟨rfl, qp3⟩; have hp3 : Ext W8 p3 := hp2.trans qp3)
      | (have _ := qp1; go_at_call 15; refine (QCmp_any s1 a1 n1 c1 s1x a1x n1x c1x s2 a2 n2 c2 s2x a2x n2x c2x P Q R S _ (IX.ext hp1) (IY.ext hp1) K hK FP.out FQ.out FR.out FS.out Hrm.out.PS Hrm.out.RQ k Ek.out).mono ?_; rintro e p2 ⟨rfl, qp2⟩; have hp2 : Ext W8 p2 := hp1.trans qp2)
      | (have _ := qp0; go_at_call 9; refine (FText_any b8 a8 n8 c8 b8x a8x n8x c8x uP uQ _ (I8.ext hp0) (I8x.ext hp0) (by omega) (by omega) K hKt hK1 FuP.out FuQ.out).mono ?_; rintro e p1 ⟨rfl, qp1⟩; have hp1 : Ext W8 p1 := hp0.trans qp1)
      | (go_at_call 8; refine (QText_any s7 a7 n7 c7 s7x a7x n7x c7x uP uQ _ (I7.ext (by assumption)) K hKt hK1 FuP.out FuQ.out (tab_ext Htab.out (hE8.out.trans (by assumption)))).mono ?_; rintro e p0 ⟨rfl, qp0⟩; have hp0 : Ext W8 p0 := Ext.trans (by assumption) qp0))
  have HF8 := hid (HF7.out.ext hp3)
  clear m0 m1 m2 m3 m4 m5 m6 m7 m8 m9 m10 m11 m12 m13 m14 m15 m16 m17 m18 m19 m20 m21 m22 m23 m24 m25 m26 m27 lf lrf lU lV lA lB lC lD HF7 Hb7 Hb8 HI7 HI8 HI8x hE8 IX IY i3 i3x i4 i4x I7 I8 I8x h0d hro hrk hp0 qp0 hp1 qp1 hp2 qp2 hp3 qp3
  have h0d : Ext p3 p3.drew := Below.drew (Ext.refl _)
  have m0 := HF8.out.qA.c0
  have m1 := HF8.out.qA.c1
  have m2 := HF8.out.qA.c2
  have m3 := HF8.out.qA.c3
  have lA := HF8.out.qA.lt
  have m4 := HF8.out.zC.c0
  have m5 := HF8.out.zC.c1
  have m6 := HF8.out.zC.c2
  have m7 := HF8.out.zC.c3
  have lC := HF8.out.zC.lt
  have m8 := HF8.out.qB.c0
  have m9 := HF8.out.qB.c1
  have m10 := HF8.out.qB.c2
  have m11 := HF8.out.qB.c3
  have lB := HF8.out.qB.lt
  have m12 := HF8.out.zD.c0
  have m13 := HF8.out.zD.c1
  have m14 := HF8.out.zD.c2
  have m15 := HF8.out.zD.c3
  have lD := HF8.out.zD.lt
  have hE9 := hid HF8.out.E
  have IX := HF8.out.IX; have IY := HF8.out.IY; have i3 := HF8.out.i3; have i3x := HF8.out.i3x; have i4 := HF8.out.i4; have i4x := HF8.out.i4x
  go_wp2_with fail
  go_region_held3 (fun w' => w'.cell? ⟨A, 0, none⟩ = some (.int .i64 s1) ∧ w'.cell? ⟨A, 1, none⟩ = some (.slice a1 n1 c1) ∧ w'.cell? ⟨A, 2, none⟩ = some (.int .i64 s1x) ∧ w'.cell? ⟨A, 3, none⟩ = some (.slice a1x n1x c1x) ∧ w'.cell? ⟨C, 0, none⟩ = some (.bool b3) ∧ w'.cell? ⟨C, 1, none⟩ = some (.slice a3 n3 c3) ∧ w'.cell? ⟨C, 2, none⟩ = some (.bool b3x) ∧ w'.cell? ⟨C, 3, none⟩ = some (.slice a3x n3x c3x) ∧ w'.cell? ⟨B, 0, none⟩ = some (.int .i64 s2) ∧ w'.cell? ⟨B, 1, none⟩ = some (.slice a2 n2 c2) ∧ w'.cell? ⟨B, 2, none⟩ = some (.int .i64 s2x) ∧ w'.cell? ⟨B, 3, none⟩ = some (.slice a2x n2x c2x) ∧ w'.cell? ⟨D, 0, none⟩ = some (.bool b4) ∧ w'.cell? ⟨D, 1, none⟩ = some (.slice a4 n4 c4) ∧ w'.cell? ⟨D, 2, none⟩ = some (.bool b4x) ∧ w'.cell? ⟨D, 3, none⟩ = some (.slice a4x n4x c4x))
    (exact ⟨cellKeep (W := p3) (by assumption) lA m0, cellKeep (W := p3) (by assumption) lA m1, cellKeep (W := p3) (by assumption) lA m2, cellKeep (W := p3) (by assumption) lA m3, cellKeep (W := p3) (by assumption) lC m4, cellKeep (W := p3) (by assumption) lC m5, cellKeep (W := p3) (by assumption) lC m6, cellKeep (W := p3) (by assumption) lC m7, cellKeep (W := p3) (by assumption) lB m8, cellKeep (W := p3) (by assumption) lB m9, cellKeep (W := p3) (by assumption) lB m10, cellKeep (W := p3) (by assumption) lB m11, cellKeep (W := p3) (by assumption) lD m12, cellKeep (W := p3) (by assumption) lD m13, cellKeep (W := p3) (by assumption) lD m14, cellKeep (W := p3) (by assumption) lD m15⟩)
    (first
      | (have _ := qd10; go_at_call 9; refine (FText_any sd10 od10 md10 jd10 sx10 ox10 mx10 jx10 mP mQ _ Kd10 Kx10 (by omega) (by omega) K hKt hK1 FmP.out FmQ.out).mono ?_; rintro e d11 ⟨rfl, qd11⟩; have hd11 : Ext p3 d11 := hd10.trans qd11)
      | (have _ := qd9; go_at_call 22; refine (FMul_is b3 a3 n3 c3 b3x a3x n3x c3x b4 a4 n4 c4 b4x a4x n4x c4x P Q R S _ (i3.ext hd9) (i3x.ext hd9) (i4.ext hd9) (i4x.ext hd9) (by omega) (by omega) (by omega) (by omega) mP mQ EmP.out EmQ.out).mono ?_; rintro e d10 ⟨sd10, od10, md10, jd10, sx10, ox10, mx10, jx10, rfl, Kd10, Kx10, Ld10, Lx10, qd10⟩; have hd10 : Ext p3 d10 := hd9.trans qd10)
      | (have _ := qd8; go_at_call 8; refine (QText_any sd8 od8 md8 jd8 sx8 ox8 mx8 jx8 mP mQ _ Kd8 K hKt hK1 FmP.out FmQ.out (tab_ext Htab.out (hE9.out.trans hd8))).mono ?_; rintro e d9 ⟨rfl, qd9⟩; have hd9 : Ext p3 d9 := hd8.trans qd9)
      | (have _ := qd7; go_at_call 21; refine (QMul_is s1 a1 n1 c1 s1x a1x n1x c1x s2 a2 n2 c2 s2x a2x n2x c2x P Q R S _ (IX.ext hd7) (IY.ext hd7) K hK hK1 Hrm.out (bru_ext Hbr.out (hE9.out.trans hd7)) mP mQ EmP.out EmQ.out).mono ?_; rintro e d8 ⟨sd8, od8, md8, jd8, sx8, ox8, mx8, jx8, rfl, Kd8, qd8⟩; have hd8 : Ext p3 d8 := hd7.trans qd8)
      | (have _ := qd6; go_at_call 9; refine (FText_any sd6 od6 md6 jd6 sx6 ox6 mx6 jx6 dP dQ _ Kd6 Kx6 (by omega) (by omega) K hKt hK1 FdP.out FdQ.out).mono ?_; rintro e d7 ⟨rfl, qd7⟩; have hd7 : Ext p3 d7 := hd6.trans qd7)
      | (have _ := qd5; go_at_call 20; refine (FSub_is b3 a3 n3 c3 b3x a3x n3x c3x b4 a4 n4 c4 b4x a4x n4x c4x P Q R S _ (i3.ext hd5) (i3x.ext hd5) (i4.ext hd5) (i4x.ext hd5) (by omega) (by omega) (by omega) (by omega) dP dQ EdP.out EdQ.out).mono ?_; rintro e d6 ⟨sd6, od6, md6, jd6, sx6, ox6, mx6, jx6, rfl, Kd6, Kx6, Ld6, Lx6, qd6⟩; have hd6 : Ext p3 d6 := hd5.trans qd6)
      | (have _ := qd4; go_at_call 8; refine (QText_any sd4 od4 md4 jd4 sx4 ox4 mx4 jx4 dP dQ _ Kd4 K hKt hK1 FdP.out FdQ.out (tab_ext Htab.out (hE9.out.trans hd4))).mono ?_; rintro e d5 ⟨rfl, qd5⟩; have hd5 : Ext p3 d5 := hd4.trans qd5)
      | (have _ := qd3; go_at_call 19; refine (QSub_is s1 a1 n1 c1 s1x a1x n1x c1x s2 a2 n2 c2 s2x a2x n2x c2x P Q R S _ (IX.ext hd3) (IY.ext hd3) K hK hK1 Hrm.out (bru_ext Hbr.out (hE9.out.trans hd3)) dP dQ EdP.out EdQ.out).mono ?_; rintro e d4 ⟨sd4, od4, md4, jd4, sx4, ox4, mx4, jx4, rfl, Kd4, qd4⟩; have hd4 : Ext p3 d4 := hd3.trans qd4)
      | (have _ := qd2; go_at_call 9; refine (FText_any sd2 od2 md2 jd2 sx2 ox2 mx2 jx2 aP aQ _ Kd2 Kx2 (by omega) (by omega) K hKt hK1 FaP.out FaQ.out).mono ?_; rintro e d3 ⟨rfl, qd3⟩; have hd3 : Ext p3 d3 := hd2.trans qd3)
      | (have _ := qd1; go_at_call 18; refine (FAdd_is b3 a3 n3 c3 b3x a3x n3x c3x b4 a4 n4 c4 b4x a4x n4x c4x P Q R S _ (i3.ext hd1) (i3x.ext hd1) (i4.ext hd1) (i4x.ext hd1) (by omega) (by omega) (by omega) (by omega) aP aQ EaP.out EaQ.out).mono ?_; rintro e d2 ⟨sd2, od2, md2, jd2, sx2, ox2, mx2, jx2, rfl, Kd2, Kx2, Ld2, Lx2, qd2⟩; have hd2 : Ext p3 d2 := hd1.trans qd2)
      | (have _ := qd0; go_at_call 8; refine (QText_any sd0 od0 md0 jd0 sx0 ox0 mx0 jx0 aP aQ _ Kd0 K hKt hK1 FaP.out FaQ.out (tab_ext Htab.out (hE9.out.trans hd0))).mono ?_; rintro e d1 ⟨rfl, qd1⟩; have hd1 : Ext p3 d1 := hd0.trans qd1)
      | (go_at_call 17; refine (QAdd_is s1 a1 n1 c1 s1x a1x n1x c1x s2 a2 n2 c2 s2x a2x n2x c2x P Q R S _ (IX.ext (by assumption)) (IY.ext (by assumption)) K hK hK1 Hrm.out (bru_ext Hbr.out (hE9.out.trans (by assumption))) aP aQ EaP.out EaQ.out).mono ?_; rintro e d0 ⟨sd0, od0, md0, jd0, sx0, ox0, mx0, jx0, rfl, Kd0, qd0⟩; have hd0 : Ext p3 d0 := Ext.trans (by assumption) qd0))
  go_wp2_with fail
  go_ret
  exact ⟨rfl, hE9.out.trans hd11⟩

end Go.Proofs.YtdiojbgbeeojkaaGreatDoor
