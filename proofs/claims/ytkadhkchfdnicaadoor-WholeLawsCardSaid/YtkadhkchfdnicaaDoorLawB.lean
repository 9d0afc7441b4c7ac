/-
  WholeLaws: the walk.
-/
import Derived.Test.YtkadhkchfdnicaaDoorLawA

namespace Go.Proofs.YtkadhkchfdnicaaDoor
open Go.RowKit

set_option maxHeartbeats 8000000 in
set_option maxRecDepth 100000 in
theorem laws_walk (t1 t2 t3 : ByteArray) (W : World) (ht1 : t1.size ≤ 9223372036854775807) (ht2 : t2.size ≤ 9223372036854775807) (ht3 : t3.size ≤ 9223372036854775807) (htab : Ten W) (hbr : Bru W) :
    Calls Tryd.prog 6 #[.string t1, .string t2, .string t3] W fun e w' => e = .returned (.bool true) ∧ Ext W w' := by
  obtain ⟨K, Q, hK, hK1, hLQ, hKt, hmul, hfit⟩ := lim_room
  have Hfit := hid hfit; have Hmul := hid hmul
  have Hp1 := hid (fun wx => Parse_any t1 wx ht1); have Hp2 := hid (fun wx => Parse_any t2 wx ht2); have Hp3 := hid (fun wx => Parse_any t3 wx ht3)
  have hx := pz_lt (bs t1); have hy := pz_lt (bs t2); have hv := pz_lt (bs t3)
  obtain ⟨x, ex⟩ : ∃ x, pz (bs t1) = x := ⟨_, rfl⟩
  obtain ⟨y, ey⟩ : ∃ y, pz (bs t2) = y := ⟨_, rfl⟩
  obtain ⟨v, ev⟩ : ∃ v, pz (bs t3) = v := ⟨_, rfl⟩
  rw [ex] at hx Hp1; rw [ey] at hy Hp2; rw [ev] at hv Hp3
  have Htab := hid htab; have Hbr := hid hbr
  have Hx := hid hx; have Hy := hid hy; have Hv := hid hv
  have Fx := hid (hfit x (by omega)); have Fy := hid (hfit y (by omega)); have Fv := hid (hfit v (by omega))
  have bxv := hmul x v (by omega) (by omega); have byv := hmul y v (by omega) (by omega); have bxy := hmul x y (by omega) (by omega); have byx := hmul y x (by omega) (by omega)
  have e1 : (x + y) * v = x * v + y * v := Int.add_mul x y v
  have F1 := hid (hfit (x + y) (by omega)); have F2 := hid (hfit ((x + y) * v) (by rw [e1]; omega)); have F3 := hid (hfit (x * v) (by omega)); have F4 := hid (hfit (y * v) (by omega)); have F5 := hid (hfit (x * v + y * v) (by omega)); have F7 := hid (hfit (x - y) (by omega)); have F8 := hid (hfit (x - y + y) (by omega)); have F10 := hid (hfit (x * y) (by omega)); have F11 := hid (hfit (y * x) (by omega))
  have F12 := hid (hfit (y + v) (by omega)); have F13 := hid (hfit (x + (y + v)) (by omega)); have F14 := hid (hfit (x + y + v) (by omega))
  have E1 : Hid (cmp3 ((x + y) * v) (x * v + y * v) = 0) := cmp3_of_eq e1
  have E2 : Hid (cmp3 (x - y + y) x = 0) := cmp3_of_eq (by omega)
  have E3 : Hid (cmp3 (x * y) (y * x) = 0) := cmp3_of_eq (Int.mul_comm x y)
  have E4 : Hid (cmp3 (x + (y + v)) (x + y + v) = 0) := cmp3_of_eq (by omega)
  obtain ⟨k, ek⟩ : ∃ k, cmp3 x y = k := ⟨_, rfl⟩
  obtain ⟨k', ek'⟩ : ∃ k', cmp3 y x = k' := ⟨_, rfl⟩
  have hkr := cmp3_range x y
  have hnk : IntKind.i64.wrap (-k') = k := by rw [← ek', cmp3_swap x y, IntKind.wrap_i64, ← ek]; omega
  have Ek := hid ek; have Ek' := hid ek'
  have Eks : Hid (cmp3 (x - y) 0 = k) := by show _ = _; rw [cmp3_sub]; exact ek
  clear ex ey ev hx hy hv hmul hfit htab hbr bxv byv bxy byx e1 ek ek' hkr hLQ
  go_enter Tryd.func6, Tryd.ntmps6
  go_wp2_with fail
  refine (Hp1.out _).mono ?_
  rintro e w1 ⟨s1, a1, n1, c1, rfl, hI1, hx1⟩
  obtain ⟨p1, hp1⟩ : ∃ p1 : Int, ((pcode (bs t1) : Nat) : Int) = p1 := ⟨_, rfl⟩
  obtain ⟨p1', hp1'⟩ : ∃ p1' : Int, ((pat (bs t1) : Nat) : Int) = p1' := ⟨_, rfl⟩
  rw [hp1, hp1']
  clear hp1 hp1'
  have bA := box2_new w1 s1 a1 n1 c1 (.int .i64 p1) (.int .i64 p1')
  have hE1 := hx1.trans (ext2_new w1 (.cells #[.int .i64 s1, .slice a1 n1 c1] 24) (.cells #[.int .i64 p1, .int .i64 p1'] 26))
  have I1 := hI1.ext (ext2_new w1 (.cells #[.int .i64 s1, .slice a1 n1 c1] 24) (.cells #[.int .i64 p1, .int .i64 p1'] 26))
  go_wp2_with fail
  generalize (w1.alloc (.cells #[.int .i64 s1, .slice a1 n1 c1] 24)).alloc (.cells #[.int .i64 p1, .int .i64 p1'] 26) = W1 at *
  generalize w1.heap.size = A at *
  refine (Hp2.out _).mono ?_
  rintro e w2 ⟨s2, a2, n2, c2, rfl, hI2, hx2⟩
  obtain ⟨p2, hp2⟩ : ∃ p2 : Int, ((pcode (bs t2) : Nat) : Int) = p2 := ⟨_, rfl⟩
  obtain ⟨p2', hp2'⟩ : ∃ p2' : Int, ((pat (bs t2) : Nat) : Int) = p2' := ⟨_, rfl⟩
  rw [hp2, hp2']
  clear hp2 hp2'
  have bB := box2_new w2 s2 a2 n2 c2 (.int .i64 p2) (.int .i64 p2')
  have hq2 := hx2.trans (ext2_new w2 (.cells #[.int .i64 s2, .slice a2 n2 c2] 24) (.cells #[.int .i64 p2, .int .i64 p2'] 26))
  have I2 := hI2.ext (ext2_new w2 (.cells #[.int .i64 s2, .slice a2 n2 c2] 24) (.cells #[.int .i64 p2, .int .i64 p2'] 26))
  go_wp2_with fail
  generalize (w2.alloc (.cells #[.int .i64 s2, .slice a2 n2 c2] 24)).alloc (.cells #[.int .i64 p2, .int .i64 p2'] 26) = W2 at *
  generalize w2.heap.size = B at *
  refine (Hp3.out _).mono ?_
  rintro e w3 ⟨s3, a3, n3, c3, rfl, hI3, hx3⟩
  obtain ⟨p3, hp3⟩ : ∃ p3 : Int, ((pcode (bs t3) : Nat) : Int) = p3 := ⟨_, rfl⟩
  obtain ⟨p3', hp3'⟩ : ∃ p3' : Int, ((pat (bs t3) : Nat) : Int) = p3' := ⟨_, rfl⟩
  rw [hp3, hp3']
  clear hp3 hp3'
  have bC := box2_new w3 s3 a3 n3 c3 (.int .i64 p3) (.int .i64 p3')
  have hq3 := hx3.trans (ext2_new w3 (.cells #[.int .i64 s3, .slice a3 n3 c3] 24) (.cells #[.int .i64 p3, .int .i64 p3'] 26))
  have I3 := hI3.ext (ext2_new w3 (.cells #[.int .i64 s3, .slice a3 n3 c3] 24) (.cells #[.int .i64 p3, .int .i64 p3'] 26))
  go_wp2_with fail
  generalize (w3.alloc (.cells #[.int .i64 s3, .slice a3 n3 c3] 24)).alloc (.cells #[.int .i64 p3, .int .i64 p3'] 26) = W3 at *
  generalize w3.heap.size = C at *
  have bA3 := bA.ext (hq2.trans hq3); have bB3 := bB.ext hq3
  have HE3 := hid (hE1.trans (hq2.trans hq3))
  have IA := I1.ext (hq2.trans hq3); have IB := I2.ext hq3; have IC := I3
  clear bA bB hE1 hq2 hq3 hx1 hx2 hx3 hI1 hI2 hI3 I1 I2 I3
  have lA := bA3.lt; have lB := bB3.lt; have lC := bC.lt
  have d0 := bA3.c0; have d1 := bA3.c1; have d2 := bB3.c0; have d3 := bB3.c1; have d4 := bC.c0; have d5 := bC.c1
  have Hbg := hid (fun wx (hx : Ext W3 wx) => wholeBegun_any wx (tab_ext Htab.out (HE3.out.trans hx)))
  have h3d : Ext W3 W3.drew := Below.drew (Ext.refl _)
  go_region_held3 (fun w' => w'.cell? ⟨A, 0, none⟩ = some (.int .i64 s1) ∧ w'.cell? ⟨A, 1, none⟩ = some (.slice a1 n1 c1) ∧ w'.cell? ⟨B, 0, none⟩ = some (.int .i64 s2) ∧ w'.cell? ⟨B, 1, none⟩ = some (.slice a2 n2 c2) ∧ w'.cell? ⟨C, 0, none⟩ = some (.int .i64 s3) ∧ w'.cell? ⟨C, 1, none⟩ = some (.slice a3 n3 c3))
    (exact ⟨cellKeep (W := W3) (by assumption) lA d0, cellKeep (W := W3) (by assumption) lA d1, cellKeep (W := W3) (by assumption) lB d2, cellKeep (W := W3) (by assumption) lB d3, cellKeep (W := W3) (by assumption) lC d4, cellKeep (W := W3) (by assumption) lC d5⟩)
    (first
      | (have _ := hy11; go_at_call 28; refine (Cmp_is 0 (K10.ext hy11) K11 K hK F10.out F11.out E3.out).mono ?_; rintro e u12 ⟨rfl, hy12⟩; have hu12 : Ext W3 u12 := hu11.trans hy12)
      | (have _ := hy10; go_at_call 26; refine (Mul_any s2 s1 a2 a1 n2 c2 n1 c1 y x u10 (IB.ext hu10) (IA.ext hu10) K hK Fy.out Fx.out).mono ?_; rintro e u11 ⟨r11, o11, m11, j11, rfl, K11, hy11⟩; have hu11 : Ext W3 u11 := hu10.trans hy11)
      | (have _ := hy9; go_at_call 26; refine (Mul_any s1 s2 a1 a2 n1 c1 n2 c2 x y u9 (IA.ext hu9) (IB.ext hu9) K hK Fx.out Fy.out).mono ?_; rintro e u10 ⟨r10, o10, m10, j10, rfl, K10, hy10⟩; have hu10 : Ext W3 u10 := hu9.trans hy10)
      | (have _ := hy8; go_at_call 28; refine (Cmp_is 0 K8 (IA.ext hu8) K hK F8.out Fx.out E2.out).mono ?_; rintro e u9 ⟨rfl, hy9⟩; have hu9 : Ext W3 u9 := hu8.trans hy9)
      | (have _ := hy7; go_at_call 22; refine (Add_any r7 s2 o7 a2 m7 j7 n2 c2 (x - y) y u7 K7 (IB.ext hu7) K hK F7.out Fy.out).mono ?_; rintro e u8 ⟨r8, o8, m8, j8, rfl, K8, hy8⟩; have hu8 : Ext W3 u8 := hu7.trans hy8)
      | (have _ := hy6; go_at_call 24; refine (Sub_any s1 s2 a1 a2 n1 c1 n2 c2 x y u6 (IA.ext hu6) (IB.ext hu6) K hK Fx.out Fy.out).mono ?_; rintro e u7 ⟨r7, o7, m7, j7, rfl, K7, hy7⟩; have hu7 : Ext W3 u7 := hu6.trans hy7)
      | (have _ := hy5; go_at_call 28; refine (Cmp_is 0 (K2.ext (hy3.trans (hy4.trans hy5))) K5 K hK F2.out F5.out E1.out).mono ?_; rintro e u6 ⟨rfl, hy6⟩; have hu6 : Ext W3 u6 := hu5.trans hy6)
      | (have _ := hy4; go_at_call 22; refine (Add_any r3 r4 o3 o4 m3 j3 m4 j4 (x * v) (y * v) u4 (K3.ext hy4) K4 K hK F3.out F4.out).mono ?_; rintro e u5 ⟨r5, o5, m5, j5, rfl, K5, hy5⟩; have hu5 : Ext W3 u5 := hu4.trans hy5)
      | (have _ := hy3; go_at_call 26; refine (Mul_any s2 s3 a2 a3 n2 c2 n3 c3 y v u3 (IB.ext hu3) (IC.ext hu3) K hK Fy.out Fv.out).mono ?_; rintro e u4 ⟨r4, o4, m4, j4, rfl, K4, hy4⟩; have hu4 : Ext W3 u4 := hu3.trans hy4)
      | (have _ := hy2; go_at_call 26; refine (Mul_any s1 s3 a1 a3 n1 c1 n3 c3 x v u2 (IA.ext hu2) (IC.ext hu2) K hK Fx.out Fv.out).mono ?_; rintro e u3 ⟨r3, o3, m3, j3, rfl, K3, hy3⟩; have hu3 : Ext W3 u3 := hu2.trans hy3)
      | (have _ := hy1; go_at_call 26; refine (Mul_any r1 s3 o1 a3 m1 j1 n3 c3 (x + y) v u1 K1 (IC.ext hu1) K hK F1.out Fv.out).mono ?_; rintro e u2 ⟨r2, o2, m2, j2, rfl, K2, hy2⟩; have hu2 : Ext W3 u2 := hu1.trans hy2)
      | (have _ := hu0; go_at_call 22; refine (Add_any s1 s2 a1 a2 n1 c1 n2 c2 x y u0 (IA.ext hu0) (IB.ext hu0) K hK Fx.out Fy.out).mono ?_; rintro e u1 ⟨r1, o1, m1, j1, rfl, K1, hy1⟩; have hu1 : Ext W3 u1 := hu0.trans hy1)
      | (go_at_call 9; refine (Hbg.out _ (by assumption)).mono ?_; rintro e u0 ⟨rfl, hy0⟩; have hu0 : Ext W3 u0 := Ext.trans (by assumption) hy0))
  have bA6 := bA3.ext hu12; have bB6 := bB3.ext hu12; have bC6 := bC.ext hu12
  have HE6 := hid (HE3.out.trans hu12)
  have IA6 := IA.ext hu12; have IB6 := IB.ext hu12; have IC6 := IC.ext hu12
  clear hy0 hy1 hy2 hy3 hy4 hy5 hy6 hy7 hy8 hy9 hy10 hy11 hy12 hu0 hu1 hu2 hu3 hu4 hu5 hu6 hu7 hu8 hu9 hu10 hu11 hu12 K1 K2 K3 K4 K5 K7 K8 K10 K11 d0 d1 d2 d3 d4 d5 lA lB lC h3d bA3 bB3 bC IA IB IC Hbg HE3
  have lA := bA6.lt; have lB := bB6.lt; have lC := bC6.lt
  have d0 := bA6.c0; have d1 := bA6.c1; have d2 := bB6.c0; have d3 := bB6.c1; have d4 := bC6.c0; have d5 := bC6.c1
  have h6d : Ext u12 u12.drew := Below.drew (Ext.refl _)
  go_wp2_with fail
  go_region_held3 (fun w' => w'.cell? ⟨A, 0, none⟩ = some (.int .i64 s1) ∧ w'.cell? ⟨A, 1, none⟩ = some (.slice a1 n1 c1) ∧ w'.cell? ⟨B, 0, none⟩ = some (.int .i64 s2) ∧ w'.cell? ⟨B, 1, none⟩ = some (.slice a2 n2 c2) ∧ w'.cell? ⟨C, 0, none⟩ = some (.int .i64 s3) ∧ w'.cell? ⟨C, 1, none⟩ = some (.slice a3 n3 c3))
    (exact ⟨cellKeep (W := u12) (by assumption) lA d0, cellKeep (W := u12) (by assumption) lA d1, cellKeep (W := u12) (by assumption) lB d2, cellKeep (W := u12) (by assumption) lB d3, cellKeep (W := u12) (by assumption) lC d4, cellKeep (W := u12) (by assumption) lC d5⟩)
    (first
      | (have _ := hg9; go_at_call 28; refine (Cmp_is 0 (M7.ext (hg8.trans hg9)) M9 K hK F13.out F14.out E4.out).mono ?_; rintro e v10 ⟨rfl, hg10⟩; have hv10 : Ext u12 v10 := hv9.trans hg10)
      | (have _ := hg8; go_at_call 22; refine (Add_any q8 s3 i8 a3 b8 f8 n3 c3 (x + y) v v8 M8 (IC6.ext hv8) K hK F1.out Fv.out).mono ?_; rintro e v9 ⟨q9, i9, b9, f9, rfl, M9, hg9⟩; have hv9 : Ext u12 v9 := hv8.trans hg9)
      | (have _ := hg7; go_at_call 22; refine (Add_any s1 s2 a1 a2 n1 c1 n2 c2 x y v7 (IA6.ext hv7) (IB6.ext hv7) K hK Fx.out Fy.out).mono ?_; rintro e v8 ⟨q8, i8, b8, f8, rfl, M8, hg8⟩; have hv8 : Ext u12 v8 := hv7.trans hg8)
      | (have _ := hg6; go_at_call 22; refine (Add_any s1 q6 a1 i6 n1 c1 b6 f6 x (y + v) v6 (IA6.ext hv6) M6 K hK Fx.out F12.out).mono ?_; rintro e v7 ⟨q7, i7, b7, f7, rfl, M7, hg7⟩; have hv7 : Ext u12 v7 := hv6.trans hg7)
      | (have _ := hg5; go_at_call 22; refine (Add_any s2 s3 a2 a3 n2 c2 n3 c3 y v v5 (IB6.ext hv5) (IC6.ext hv5) K hK Fy.out Fv.out).mono ?_; rintro e v6 ⟨q6, i6, b6, f6, rfl, M6, hg6⟩; have hv6 : Ext u12 v6 := hv5.trans hg6)
      | (have _ := hg4; go_at_call 16; refine (Sign_is M4 Eks.out _).mono ?_; rintro e v5 ⟨rfl, hg5⟩; have hv5 : Ext u12 v5 := hv4.trans hg5)
      | (have _ := hg3; go_at_call 24; refine (Sub_any s1 s2 a1 a2 n1 c1 n2 c2 x y v3 (IA6.ext hv3) (IB6.ext hv3) K hK Fx.out Fy.out).mono ?_; rintro e v4 ⟨q4, i4, b4, f4, rfl, M4, hg4⟩; have hv4 : Ext u12 v4 := hv3.trans hg4)
      | (have _ := hg2; go_at_call 28; refine (Cmp_is k (IA6.ext hv2) (IB6.ext hv2) K hK Fx.out Fy.out Ek.out).mono ?_; rintro e v3 ⟨rfl, hg3⟩; have hv3 : Ext u12 v3 := hv2.trans hg3)
      | (have _ := hg1; go_at_call 28; refine (Cmp_is k' (IB6.ext hv1) (IA6.ext hv1) K hK Fy.out Fx.out Ek'.out).mono ?_; rintro e v2 ⟨rfl, hg2⟩; have hv2 : Ext u12 v2 := hv1.trans hg2)
      | (go_at_call 28; refine (Cmp_is k (IA6.ext h6d) (IB6.ext h6d) K hK Fx.out Fy.out Ek.out).mono ?_; rintro e v1 ⟨rfl, hg1⟩; have hv1 : Ext u12 v1 := h6d.trans hg1))
  have bA7 := bA6.ext hv10; have bB7 := bB6.ext hv10
  have HE7 := hid (HE6.out.trans hv10)
  have IA7 := IA6.ext hv10; have IB7 := IB6.ext hv10
  clear hg1 hg2 hg3 hg4 hg5 hg6 hg7 hg8 hg9 hg10 hv1 hv2 hv3 hv4 hv5 hv6 hv7 hv8 hv9 hv10 M4 M6 M7 M8 M9 d0 d1 d2 d3 d4 d5 lA lB lC h6d bA6 bB6 bC6 IA6 IB6 IC6 HE6 hnk F1 F2 F3 F4 F5 F7 F8 F10 F11 F12 F13 F14 E1 E2 E3 E4 Ek Ek' Eks
  have d0 := bA7.c0; have d1 := bA7.c1
  have hn1 := IA7.len Fx.out
  have Htx := hid (Text_any s1 a1 n1 c1 x v10 IA7 (by omega) (tab_ext Htab.out HE7.out))
  go_wp2_with fail
  refine Htx.out.mono ?_
  rintro e w8 ⟨rfl, hx8⟩
  go_wp2_with fail
  refine (Parse_txt x Hx.out w8).mono ?_
  rintro e w9 ⟨s4, a4, n4, c4, rfl, hI4, hx9⟩
  have bD := box2_new w9 s4 a4 n4 c4 (.int .i64 0) (.int .i64 0)
  have bF := fbx_new (w9.alloc (.cells #[.int .i64 s4, .slice a4 n4 c4] 24)) 0 0
  have hq9 := ext2_new w9 (.cells #[.int .i64 s4, .slice a4 n4 c4] 24) (.cells #[.int .i64 0, .int .i64 0] 26)
  rw [show (w9.alloc (.cells #[.int .i64 s4, .slice a4 n4 c4] 24)).heap.size = w9.heap.size + 1 from by simp] at bF
  have I4 := hI4.ext hq9
  have bA9 := bA7.ext (hx8.trans (hx9.trans hq9)); have bB9 := bB7.ext (hx8.trans (hx9.trans hq9))
  have IA9 := IA7.ext (hx8.trans (hx9.trans hq9)); have IB9 := IB7.ext (hx8.trans (hx9.trans hq9))
  have HE9 := hid (HE7.out.trans (hx8.trans (hx9.trans hq9)))
  have lD := (HE7.out.trans (hx8.trans hx9)).size
  have lA9 := Nat.lt_of_lt_of_le bA7.lt (hx8.trans hx9).size; have lB9 := Nat.lt_of_lt_of_le bB7.lt (hx8.trans hx9).size
  clear bA7 bB7 IA7 IB7 HE7 hx8 hx9 hI4 d0 d1 hq9 Htx
  have d0 := bA9.c0; have d1 := bA9.c1; have d6 := bD.c0; have d7 := bD.c1; have d8 := bF.c0
  go_wp2_with fail
  generalize (w9.alloc (.cells #[.int .i64 s4, .slice a4 n4 c4] 24)).alloc (.cells #[.int .i64 0, .int .i64 0] 26) = W9 at *
  generalize w9.heap.size = D at *
  refine (Cmp_is 0 I4 IA9 K hK Fx.out Fx.out (cmp3_refl x)).mono ?_
  rintro e wa ⟨rfl, hxa⟩
  have bAa := bA9.ext hxa; have bBa := bB9.ext hxa; have bFa := bF.ext hxa
  have IAa := IA9.ext hxa; have IBa := IB9.ext hxa
  have HEa := hid (HE9.out.trans hxa)
  clear d0 d1 d6 d7 d8 bA9 bB9 bF bD IA9 IB9 HE9 I4 hxa
  have d0 := bAa.c0; have d1 := bAa.c1; have d2 := bBa.c0; have d3 := bBa.c1
  by_cases hy0 : y = 0
  · have Hdz := hid (Div_zero s1 s2 a1 a2 n1 c1 n2 c2 wa (IBa.cast hy0))
    have Hsg := hid (fun wx => Sign_is (k := 0) IBa (by rw [hy0]; decide) wx)
    clear hy0
    go_wp2_with fail
    refine Hdz.out.mono ?_
    rintro e wb ⟨rfl, hxb⟩
    have hqb := (Ext.alloc wb (.cells #[.int .i64 0, .slice none 0 0] 24)).then (.cells #[.int .i64 0, .slice none 0 0] 24)
    have bFb := bFa.ext (hxb.trans hqb); have bBb := bBa.ext (hxb.trans hqb)
    have g0 := bFb.c0; have g1 := bFb.c1; have h0 := bFb.f0 0; have h1 := bFb.f0 1
    have lF := bFa.lt; have lB := bBa.lt; have hzb := hxb.size
    have HEb := hid (HEa.out.trans (hxb.trans hqb))
    have hneF : A ≠ D + 1 → True := fun _ => trivial
    have bBc := (bBb.put (h := D + 1) (o := 0) (by omega) (.int .i64 4)).put (h := D + 1) (o := 1) (by omega) (.int .i64 0)
    have bFc := bFb.own 4 0
    have HEc := hid (HEb.out.put2 (g := D + 1) (o := 0) (o' := 1) (by omega) (.int .i64 4) (.int .i64 0))
    have e0 := bBc.c0; have e1 := bBc.c1; have e2 := bFc.c0
    clear hneF d0 d1 d2 d3
    go_wp2_with fail
    generalize (((wb.alloc (.cells #[.int .i64 0, .slice none 0 0] 24)).alloc (.cells #[.int .i64 0, .slice none 0 0] 24)).setCell ⟨D + 1, 0, none⟩ (.int .i64 4)).setCell ⟨D + 1, 1, none⟩ (.int .i64 0) = Wz at *
    refine (Hsg.out _).mono ?_
    rintro e wc ⟨rfl, hxc⟩
    have e3 := (bFc.ext hxc).c0
    go_wp2_with fail
    go_ret
    exact ⟨rfl, HEc.out.trans hxc⟩
  · have Hdiv := hid (Div_any s1 s2 a1 a2 n1 c1 n2 c2 x y wa IAa IBa K hK hK1 Fx.out Fy.out hy0)
    have Hy0 := hid hy0
    have lA := bAa.lt; have lB := bBa.lt; have lF := bFa.lt
    go_wp2_with fail
    refine Hdiv.out.mono ?_
    rintro e wb ⟨s5, a5, n5, c5, s6, a6, n6, c6, q, r, rfl, hI5, hI6, hdv, hxb⟩
    have Hdv := hid hdv
    have hqb := (Ext.alloc wb (.cells #[.int .i64 s5, .slice a5 n5 c5] 24)).then (.cells #[.int .i64 s6, .slice a6 n6 c6] 24)
    have bQ0 := (box_new wb s5 a5 n5 c5).ext (Ext.alloc _ (.cells #[.int .i64 s6, .slice a6 n6 c6] 24))
    have bR0 := box_new (wb.alloc (.cells #[.int .i64 s5, .slice a5 n5 c5] 24)) s6 a6 n6 c6
    rw [show (wb.alloc (.cells #[.int .i64 s5, .slice a5 n5 c5] 24)).heap.size = wb.heap.size + 1 from by simp] at bR0
    have bFb := bFa.ext (hxb.trans hqb)
    have g0 := bFb.c0; have g1 := bFb.c1; have h0 := bFb.f0 0; have h1 := bFb.f0 1
    have hzb := hxb.size
    have hkk := Keep64.set2 (.i64 g0) (.i64 g1) (notW_i64 0) (.int .i64 0)
    have IQz := (hI5.ext hqb).keep64 hkk; have IRz := (hI6.ext hqb).keep64 hkk
    have IAz := (IAa.ext (hxb.trans hqb)).keep64 hkk; have IBz := (IBa.ext (hxb.trans hqb)).keep64 hkk
    have bAz := ((bAa.ext (hxb.trans hqb)).put (h := D + 1) (o := 0) (by omega) (.int .i64 0)).put (h := D + 1) (o := 1) (by omega) (.int .i64 0)
    have bBz := ((bBa.ext (hxb.trans hqb)).put (h := D + 1) (o := 0) (by omega) (.int .i64 0)).put (h := D + 1) (o := 1) (by omega) (.int .i64 0)
    have bQz := (bQ0.put (h := D + 1) (o := 0) (by omega) (.int .i64 0)).put (h := D + 1) (o := 1) (by omega) (.int .i64 0)
    have bRz := (bR0.put (h := D + 1) (o := 0) (by omega) (.int .i64 0)).put (h := D + 1) (o := 1) (by omega) (.int .i64 0)
    have bFz := bFb.own 0 0
    have HEz := hid ((HEa.out.trans (hxb.trans hqb)).put2 (g := D + 1) (o := 0) (o' := 1) (by omega) (.int .i64 0) (.int .i64 0))
    have lG : D + 1 < wb.heap.size := by omega
    clear d0 d1 d2 d3 hdv hI5 hI6 bQ0 bR0 hkk hqb hxb
    have e0 := bBz.c0; have e1 := bBz.c1
    go_wp2_with fail
    generalize (((wb.alloc (.cells #[.int .i64 s5, .slice a5 n5 c5] 24)).alloc (.cells #[.int .i64 s6, .slice a6 n6 c6] 24)).setCell ⟨D + 1, 0, none⟩ (.int .i64 0)).setCell ⟨D + 1, 1, none⟩ (.int .i64 0) = Wz at *
    generalize wb.heap.size = G at *
    clear hy0 g0 g1 h0 h1 bFb bAa bBa bFa IAa IBa HEa hzb lA lB lF Hdiv
    by_cases hneg : y < 0
    · have Hneg := hid hneg
      have Hsg := hid (fun wx => Sign_is (k := -1) IBz (cmp3_lt hneg) wx)
      refine (Hsg.out _).mono ?_
      rintro e wc ⟨rfl, hxc⟩
      have hqc := hxc.then (.cells #[.int .i64 s2, .slice a2 n2 c2] 24)
      have f0 := cellKeep hxc bBz.lt e0; have f1 := cellKeep hxc bBz.lt e1; have f2 := cellKeep hqc bBz.lt e0; have f3 := cellKeep hqc bBz.lt e1
      have bSc := box_new wc s2 a2 n2 c2
      have lH : G + 1 < wc.heap.size := Nat.lt_of_lt_of_le bRz.lt hxc.size
      go_wp2_with fail
      generalize wc.alloc (.cells #[.int .i64 s2, .slice a2 n2 c2] 24) = Wc at *
      generalize wc.heap.size = H at *
      refine (Hsg.out _).mono ?_
      rintro e wd ⟨rfl, hxd⟩
      have hqd := hqc.trans hxd
      have f4 := cellKeep hqd bBz.lt e0; have f5 := cellKeep hqd bBz.lt e1
      clear f0 f1 f2 f3
      go_wp2_with fail
      refine (Neg_any s2 a2 n2 c2 y wd (IBz.ext hqd)).mono ?_
      rintro e we ⟨s7, a7, n7, c7, rfl, hI7, hxe⟩
      have hqe := hqd.trans hxe
      have bSe := bSc.ext (hxd.trans hxe)
      have g0 := bSe.c0; have g1 := bSe.c1; have h0 := bSe.f0; have h1 := bSe.f1
      have hkk := Keep64.set2 (.i64 g0) (.slice g1) (notW_i64 s7) (.slice a7 n7 c7)
      have lBz := bBz.lt; have lAz := bAz.lt; have lQz := bQz.lt; have lRz := bRz.lt; have lFz := bFz.lt
      have hHne : ∀ i, i < G + 2 → i ≠ H := fun i hi => by omega
      have IA := (IAz.ext hqe).keep64 hkk; have IB := (IBz.ext hqe).keep64 hkk; have IQ := (IQz.ext hqe).keep64 hkk; have IR := (IRz.ext hqe).keep64 hkk; have IS := hI7.keep64 hkk
      have bA := ((bAz.ext hqe).put (h := H) (o := 0) (by omega) (.int .i64 s7)).put (h := H) (o := 1) (by omega) (.slice a7 n7 c7)
      have bB := ((bBz.ext hqe).put (h := H) (o := 0) (by omega) (.int .i64 s7)).put (h := H) (o := 1) (by omega) (.slice a7 n7 c7)
      have bQ := ((bQz.ext hqe).put (h := H) (o := 0) (by omega) (.int .i64 s7)).put (h := H) (o := 1) (by omega) (.slice a7 n7 c7)
      have bR := ((bRz.ext hqe).put (h := H) (o := 0) (by omega) (.int .i64 s7)).put (h := H) (o := 1) (by omega) (.slice a7 n7 c7)
      have bF := ((bFz.ext hqe).put (h := H) (o := 0) (by omega) (.int .i64 s7)).put (h := H) (o := 1) (by omega) (.slice a7 n7 c7)
      have bS := bSe.own s7 a7 n7 c7
      have HEV := hid ((HEz.out.trans hqe).put2 (g := H) (o := 0) (o' := 1) (by omega) (.int .i64 s7) (.slice a7 n7 c7))
      generalize hV : (we.setCell ⟨H, 0, none⟩ (.int .i64 s7)).setCell ⟨H, 1, none⟩ (.slice a7 n7 c7) = V at IA IB IQ IR IS bA bB bQ bR bF bS HEV
      have HV := hid hV
      clear hV f4 f5 e0 e1 hkk hHne
      have dF := bF.c0
      go_wp2_with fail
      rw [HV.out]
      clear hneg bAz bBz bQz bRz bFz bSc bSe IAz IBz IQz IRz HEz hxc hqc hxd hqd hxe hqe hI7 Hsg dF lBz lAz lQz lRz lFz g0 g1 h0 h1 HV
      have Fq := hid (Fx.out.le Hdv.out.facts.1)
      have Fr := hid (Fy.out.le (Nat.le_of_lt Hdv.out.facts.2.2.1))
      have Fqy := hid (Hfit.out (q * y) (by have := Hmul.out q y (by have := Hdv.out.facts.1; have := Hx.out; omega) (by have := Hy.out; omega); omega))
      have Fqr : Hid (Fit K (q * y + r)) := by show Fit _ _; rw [Hdv.out.facts.2.1]; exact Fx.out
      have FS : Hid (Fit K (-y)) := Fy.out.neg
      have EC : Hid (cmp3 (q * y + r) x = 0) := cmp3_of_eq Hdv.out.facts.2.1
      have ES : Hid (cmp3 r (-y) = -1) := cmp3_lt (by have := Hneg.out; have := Hdv.out.facts.2.2; omega)
      obtain ⟨sr, esr⟩ : ∃ sr, cmp3 r 0 = sr := ⟨_, rfl⟩
      have hsr : decide (sr < 0) = false := by
        rw [← esr, decide_eq_false_iff_not]
        have := Hdv.out.facts.2.2.2
        unfold cmp3
        rw [if_neg (by omega)]
        split <;> omega
      have Esr := hid esr
      have lA := bA.lt; have lB := bB.lt; have lQ := bQ.lt; have lR := bR.lt; have lS := bS.lt; have lF := bF.lt
      have d0 := bA.c0; have d1 := bA.c1; have d2 := bB.c0; have d3 := bB.c1; have d4 := bQ.c0; have d5 := bQ.c1; have d6 := bR.c0; have d7 := bR.c1; have d8 := bS.c0; have d9 := bS.c1; have dF := bF.c0
      have hVd : Ext V V.drew := Below.drew (Ext.refl _)
      clear esr
      go_region_held3 (fun w' => w'.cell? ⟨D + 1, 0, none⟩ = some (.int .i64 0) ∧ w'.cell? ⟨G, 0, none⟩ = some (.int .i64 s5) ∧ w'.cell? ⟨G, 1, none⟩ = some (.slice a5 n5 c5) ∧ w'.cell? ⟨G + 1, 0, none⟩ = some (.int .i64 s6) ∧ w'.cell? ⟨G + 1, 1, none⟩ = some (.slice a6 n6 c6) ∧ w'.cell? ⟨B, 0, none⟩ = some (.int .i64 s2) ∧ w'.cell? ⟨B, 1, none⟩ = some (.slice a2 n2 c2) ∧ w'.cell? ⟨A, 0, none⟩ = some (.int .i64 s1) ∧ w'.cell? ⟨A, 1, none⟩ = some (.slice a1 n1 c1) ∧ w'.cell? ⟨H, 0, none⟩ = some (.int .i64 s7) ∧ w'.cell? ⟨H, 1, none⟩ = some (.slice a7 n7 c7))
        (exact ⟨cellKeep (W := V) (by assumption) lF dF, cellKeep (W := V) (by assumption) lQ d4, cellKeep (W := V) (by assumption) lQ d5, cellKeep (W := V) (by assumption) lR d6, cellKeep (W := V) (by assumption) lR d7, cellKeep (W := V) (by assumption) lB d2, cellKeep (W := V) (by assumption) lB d3, cellKeep (W := V) (by assumption) lA d0, cellKeep (W := V) (by assumption) lA d1, cellKeep (W := V) (by assumption) lS d8, cellKeep (W := V) (by assumption) lS d9⟩)
        (first
          | (have _ := hk4; go_at_call 28; refine (Cmp_is (-1) (IR.ext hz4) (IS.ext hz4) K hK Fr.out FS.out ES.out).mono ?_; rintro e x5 ⟨rfl, hk5⟩; have hz5 : Ext V x5 := hz4.trans hk5)
          | (have _ := hk3; go_at_call 16; refine (Sign_is IR Esr.out _).mono ?_; rintro e x4 ⟨rfl, hk4⟩; have hz4 : Ext V x4 := hz3.trans hk4)
          | (have _ := hk2; go_at_call 28; refine (Cmp_is 0 N2 (IA.ext hz2) K hK Fqr.out Fx.out EC.out).mono ?_; rintro e x3 ⟨rfl, hk3⟩; have hz3 : Ext V x3 := hz2.trans hk3)
          | (have _ := hk1; go_at_call 22; refine (Add_any q1 s6 i1 a6 b1 f1 n6 c6 (q * y) r x1 N1 (IR.ext hz1) K hK Fqy.out Fr.out).mono ?_; rintro e x2 ⟨q2, i2, b2, f2, rfl, N2, hk2⟩; have hz2 : Ext V x2 := hz1.trans hk2)
          | (go_at_call 26; refine (Mul_any s5 s2 a5 a2 n5 c5 n2 c2 q y _ (IQ.ext hVd) (IB.ext hVd) K hK Fq.out Fy.out).mono ?_; rintro e x1 ⟨q1, i1, b1, f1, rfl, N1, hk1⟩; have hz1 : Ext V x1 := hVd.trans hk1))
      have bA5 := bA.ext hz5; have bB5 := bB.ext hz5; have bF5 := bF.ext hz5
      have IA5 := IA.ext hz5; have IB5 := IB.ext hz5
      have HE5 := hid (HEV.out.trans hz5)
      clear hk1 hk2 hk3 hk4 hk5 hz1 hz2 hz3 hz4 hz5 N1 N2 d0 d1 d2 d3 d4 d5 d6 d7 d8 d9 dF lA lB lQ lR lS lF hVd bA bB bQ bR bS bF IA IB IQ IR IS HEV hsr Fq Fr Fqy Fqr FS EC ES Esr
      have d0 := bA5.c0; have d1 := bA5.c1; have d2 := bB5.c0; have d3 := bB5.c1
      have Hov := hid (Over_any s1 s2 a1 a2 n1 c1 n2 c2 x y x5 IA5 IB5 K hK hK1 Fx.out Fy.out Hy0.out (bru_ext Hbr.out HE5.out))
      go_wp2_with fail
      refine Hov.out.mono ?_
      rintro e wo ⟨s8, a8, n8, c8, s9, a9, n9, c9, p, q', rfl, hI8, hI9, hz, hnz, hxo⟩
      have Hlow := hid (low_facts Hy0.out hz hnz)
      have hEo := Ext.alloc wo (.cells #[.int .i64 s8, .slice a8 n8 c8, .int .i64 s9, .slice a9 n9 c9] 61)
      have bJ0 := qbx_new wo s8 a8 n8 c8 s9 a9 n9 c9
      have bFo := bF5.ext (hxo.trans hEo)
      have g0 := bFo.c0; have g1 := bFo.c1; have h0 := bFo.f0 0; have h1 := bFo.f0 1
      have lFo := Nat.lt_of_lt_of_le bF5.lt hxo.size; have lAo := bA5.lt; have lBo := bB5.lt
      have hkk := Keep64.set2 (.i64 g0) (.i64 g1) (notW_i64 0) (.int .i64 0)
      have I8 := (hI8.ext hEo).keep64 hkk; have I9 := (hI9.ext hEo).keep64 hkk
      have IAo := (IA5.ext (hxo.trans hEo)).keep64 hkk; have IBo := (IB5.ext (hxo.trans hEo)).keep64 hkk
      have bAo := ((bA5.ext (hxo.trans hEo)).put (h := D + 1) (o := 0) (by omega) (.int .i64 0)).put (h := D + 1) (o := 1) (by omega) (.int .i64 0)
      have bBo := ((bB5.ext (hxo.trans hEo)).put (h := D + 1) (o := 0) (by omega) (.int .i64 0)).put (h := D + 1) (o := 1) (by omega) (.int .i64 0)
      have bFp := bFo.own 0 0
      have bJ := (bJ0.put (h := D + 1) (o := 0) (by omega) (.int .i64 0)).put (h := D + 1) (o := 1) (by omega) (.int .i64 0)
      have HEo := hid ((HE5.out.trans (hxo.trans hEo)).put2 (g := D + 1) (o := 0) (o' := 1) (by omega) (.int .i64 0) (.int .i64 0))
      have m0 := bJ.c0; have m1 := bJ.c1; have m2 := bJ.c2; have m3 := bJ.c3
      clear d0 d1 d2 d3 hI8 hI9 hz hnz hkk bJ0 bA5 bB5 bF5 IA5 IB5 HE5 hEo hxo bFo lFo lAo lBo
      go_wp2_with fail
      generalize ((wo.alloc (.cells #[.int .i64 s8, .slice a8 n8 c8, .int .i64 s9, .slice a9 n9 c9] 61)).setCell ⟨D + 1, 0, none⟩ (.int .i64 0)).setCell ⟨D + 1, 1, none⟩ (.int .i64 0) = Wo at *
      generalize wo.heap.size = J at *
      refine (Parts_any s8 s9 a8 a9 n8 c8 n9 c9 p q' Wo I8 I9).mono ?_
      rintro e wp ⟨sT, aT, nT, cT, sL, aL, nL, cL, rfl, hIT, hIL, hxp⟩
      obtain ⟨lo, hlo⟩ : ∃ lo, (if p = 0 then 1 else q') = lo := ⟨_, rfl⟩
      rw [hlo] at hIL Hlow
      have hqp := (Ext.alloc wp (.cells #[.int .i64 sT, .slice aT nT cT] 24)).then (.cells #[.int .i64 sL, .slice aL nL cL] 24)
      have bT := (box_new wp sT aT nT cT).ext (Ext.alloc _ (.cells #[.int .i64 sL, .slice aL nL cL] 24))
      have bL := box_new (wp.alloc (.cells #[.int .i64 sT, .slice aT nT cT] 24)) sL aL nL cL
      rw [show (wp.alloc (.cells #[.int .i64 sT, .slice aT nT cT] 24)).heap.size = wp.heap.size + 1 from by simp] at bL
      have bA := bAo.ext (hxp.trans hqp); have bB := bBo.ext (hxp.trans hqp); have bF := bFp.ext (hxp.trans hqp)
      have IA := IAo.ext (hxp.trans hqp); have IB := IBo.ext (hxp.trans hqp); have IT := hIT.ext hqp; have IL := hIL.ext hqp
      have HEp := hid (HEo.out.trans (hxp.trans hqp))
      clear m0 m1 m2 m3 g0 g1 h0 h1 bJ bAo bBo bFp IAo IBo I8 I9 hIT hIL hlo hqp hxp HEo
      go_wp2_with fail
      generalize (wp.alloc (.cells #[.int .i64 sT, .slice aT nT cT] 24)).alloc (.cells #[.int .i64 sL, .slice aL nL cL] 24) = Wp at *
      generalize wp.heap.size = L at *
      have Fp := hid (Fx.out.le Hlow.out.2.2.2.1)
      have Flo := hid (Fy.out.le Hlow.out.2.2.2.2)
      have Fpy := hid (Hfit.out (p * y) (by have := Hmul.out p y (by have := Hlow.out.2.2.2.1; have := Hx.out; omega) (by have := Hy.out; omega); omega))
      have Flx := hid (Hfit.out (lo * x) (by have := Hmul.out lo x (by have := Hlow.out.2.2.2.2; have := Hy.out; omega) (by have := Hx.out; omega); omega))
      have FG : Hid (Fit K ((Nat.gcd p.natAbs lo.natAbs : Nat) : Int)) := by show Fit _ _; rw [Hlow.out.2.1]; exact Fit.one hK1
      have EP : Hid (cmp3 (p * y) (lo * x) = 0) := cmp3_of_eq Hlow.out.2.2.1
      have EL : Hid (cmp3 lo 0 = 1) := cmp3_gt Hlow.out.1
      have lA := bA.lt; have lB := bB.lt; have lT := bT.lt; have lL := bL.lt; have lF := bF.lt
      have d0 := bA.c0; have d1 := bA.c1; have d2 := bB.c0; have d3 := bB.c1; have d4 := bT.c0; have d5 := bT.c1; have d6 := bL.c0; have d7 := bL.c1; have dF := bF.c0
      have hpd : Ext Wp Wp.drew := Below.drew (Ext.refl _)
      go_region_held3 (fun w' => w'.cell? ⟨D + 1, 0, none⟩ = some (.int .i64 0) ∧ w'.cell? ⟨L, 0, none⟩ = some (.int .i64 sT) ∧ w'.cell? ⟨L, 1, none⟩ = some (.slice aT nT cT) ∧ w'.cell? ⟨L + 1, 0, none⟩ = some (.int .i64 sL) ∧ w'.cell? ⟨L + 1, 1, none⟩ = some (.slice aL nL cL) ∧ w'.cell? ⟨B, 0, none⟩ = some (.int .i64 s2) ∧ w'.cell? ⟨B, 1, none⟩ = some (.slice a2 n2 c2) ∧ w'.cell? ⟨A, 0, none⟩ = some (.int .i64 s1) ∧ w'.cell? ⟨A, 1, none⟩ = some (.slice a1 n1 c1))
        (exact ⟨cellKeep (W := Wp) (by assumption) lF dF, cellKeep (W := Wp) (by assumption) lT d4, cellKeep (W := Wp) (by assumption) lT d5, cellKeep (W := Wp) (by assumption) lL d6, cellKeep (W := Wp) (by assumption) lL d7, cellKeep (W := Wp) (by assumption) lB d2, cellKeep (W := Wp) (by assumption) lB d3, cellKeep (W := Wp) (by assumption) lA d0, cellKeep (W := Wp) (by assumption) lA d1⟩)
        (first
          | (have _ := hm5; go_at_call 28; refine (Cmp_is 0 (R4.ext hm5) R5 K hK Fpy.out Flx.out EP.out).mono ?_; rintro e y6 ⟨rfl, hm6⟩; have hw6 : Ext Wp y6 := hw5.trans hm6)
          | (have _ := hm4; go_at_call 26; refine (Mul_any sL s1 aL a1 nL cL n1 c1 lo x y4 (IL.ext hw4) (IA.ext hw4) K hK Flo.out Fx.out).mono ?_; rintro e y5 ⟨q5, i5, b5, f5, rfl, R5, hm5⟩; have hw5 : Ext Wp y5 := hw4.trans hm5)
          | (have _ := hm3; go_at_call 26; refine (Mul_any sT s2 aT a2 nT cT n2 c2 p y y3 (IT.ext hw3) (IB.ext hw3) K hK Fp.out Fy.out).mono ?_; rintro e y4 ⟨q4, i4, b4, f4, rfl, R4, hm4⟩; have hw4 : Ext Wp y4 := hw3.trans hm4)
          | (have _ := hm2; go_at_call 12; refine (Text_one R2 Hlow.out.2.1 (by have := R2.len FG.out; omega) (tab_ext Htab.out (HEp.out.trans hw2))).mono ?_; rintro e y3 ⟨rfl, hm3⟩; have hw3 : Ext Wp y3 := hw2.trans hm3)
          | (have _ := hm1; go_at_call 32; refine (Gcd_all sT sL aT aL nT cT nL cL p lo y1 (IT.ext hw1) (IL.ext hw1) K hK hK1 Fp.out Flo.out (bru_ext Hbr.out (HEp.out.trans hw1))).mono ?_; rintro e y2 ⟨q2, i2, b2, f2, rfl, R2, hm2⟩; have hw2 : Ext Wp y2 := hw1.trans hm2)
          | (go_at_call 16; refine (Sign_is IL EL.out _).mono ?_; rintro e y1 ⟨rfl, hm1⟩; have hw1 : Ext Wp y1 := hpd.trans hm1))
      go_wp2_with fail
      go_ret
      exact ⟨rfl, HEp.out.trans hw6⟩
    · have hpos : 0 < y := by have := Hy0.out; omega
      have Hsg := hid (fun wx => Sign_is (k := 1) IBz (cmp3_gt hpos) wx)
      refine (Hsg.out _).mono ?_
      rintro e wc ⟨rfl, hxc⟩
      have hqc := hxc.then (.cells #[.int .i64 s2, .slice a2 n2 c2] 24)
      have f0 := cellKeep hxc bBz.lt e0; have f1 := cellKeep hxc bBz.lt e1; have f2 := cellKeep hqc bBz.lt e0; have f3 := cellKeep hqc bBz.lt e1
      have bSc := box_new wc s2 a2 n2 c2
      have lH : G + 1 < wc.heap.size := Nat.lt_of_lt_of_le bRz.lt hxc.size
      go_wp2_with fail
      generalize wc.alloc (.cells #[.int .i64 s2, .slice a2 n2 c2] 24) = Wc at *
      generalize wc.heap.size = H at *
      refine (Hsg.out _).mono ?_
      rintro e wd ⟨rfl, hxd⟩
      have hqd := hqc.trans hxd
      have bA := bAz.ext hqd; have bB := bBz.ext hqd; have bQ := bQz.ext hqd; have bR := bRz.ext hqd; have bF := bFz.ext hqd; have bS := bSc.ext hxd
      have IA := IAz.ext hqd; have IB := IBz.ext hqd; have IQ := IQz.ext hqd; have IR := IRz.ext hqd; have IS := IBz.ext hqd
      have HEV := hid (HEz.out.trans hqd)
      clear f0 f1 f2 f3 e0 e1 hneg bAz bBz bQz bRz bFz bSc IAz IBz IQz IRz HEz hxc hqc hxd hqd Hsg
      have Fq := hid (Fx.out.le Hdv.out.facts.1)
      have Fr := hid (Fy.out.le (Nat.le_of_lt Hdv.out.facts.2.2.1))
      have Fqy := hid (Hfit.out (q * y) (by have := Hmul.out q y (by have := Hdv.out.facts.1; have := Hx.out; omega) (by have := Hy.out; omega); omega))
      have Fqr : Hid (Fit K (q * y + r)) := by show Fit _ _; rw [Hdv.out.facts.2.1]; exact Fx.out
      have FS : Hid (Fit K y) := Fy.out.le (by omega)
      have EC : Hid (cmp3 (q * y + r) x = 0) := cmp3_of_eq Hdv.out.facts.2.1
      have ES : Hid (cmp3 r y = -1) := cmp3_lt (by have := Hdv.out.facts.2.2; omega)
      obtain ⟨sr, esr⟩ : ∃ sr, cmp3 r 0 = sr := ⟨_, rfl⟩
      have hsr : decide (sr < 0) = false := by
        rw [← esr, decide_eq_false_iff_not]
        have := Hdv.out.facts.2.2.2
        unfold cmp3
        rw [if_neg (by omega)]
        split <;> omega
      have Esr := hid esr
      have lA := bA.lt; have lB := bB.lt; have lQ := bQ.lt; have lR := bR.lt; have lS := bS.lt; have lF := bF.lt
      have d0 := bA.c0; have d1 := bA.c1; have d2 := bB.c0; have d3 := bB.c1; have d4 := bQ.c0; have d5 := bQ.c1; have d6 := bR.c0; have d7 := bR.c1; have d8 := bS.c0; have d9 := bS.c1; have dF := bF.c0
      have hVd : Ext wd wd.drew := Below.drew (Ext.refl _)
      clear esr
      go_wp2_with fail
      go_region_held3 (fun w' => w'.cell? ⟨D + 1, 0, none⟩ = some (.int .i64 0) ∧ w'.cell? ⟨G, 0, none⟩ = some (.int .i64 s5) ∧ w'.cell? ⟨G, 1, none⟩ = some (.slice a5 n5 c5) ∧ w'.cell? ⟨G + 1, 0, none⟩ = some (.int .i64 s6) ∧ w'.cell? ⟨G + 1, 1, none⟩ = some (.slice a6 n6 c6) ∧ w'.cell? ⟨B, 0, none⟩ = some (.int .i64 s2) ∧ w'.cell? ⟨B, 1, none⟩ = some (.slice a2 n2 c2) ∧ w'.cell? ⟨A, 0, none⟩ = some (.int .i64 s1) ∧ w'.cell? ⟨A, 1, none⟩ = some (.slice a1 n1 c1) ∧ w'.cell? ⟨H, 0, none⟩ = some (.int .i64 s2) ∧ w'.cell? ⟨H, 1, none⟩ = some (.slice a2 n2 c2))
        (exact ⟨cellKeep (W := wd) (by assumption) lF dF, cellKeep (W := wd) (by assumption) lQ d4, cellKeep (W := wd) (by assumption) lQ d5, cellKeep (W := wd) (by assumption) lR d6, cellKeep (W := wd) (by assumption) lR d7, cellKeep (W := wd) (by assumption) lB d2, cellKeep (W := wd) (by assumption) lB d3, cellKeep (W := wd) (by assumption) lA d0, cellKeep (W := wd) (by assumption) lA d1, cellKeep (W := wd) (by assumption) lS d8, cellKeep (W := wd) (by assumption) lS d9⟩)
        (first
          | (have _ := hk4; go_at_call 28; refine (Cmp_is (-1) (IR.ext hz4) (IS.ext hz4) K hK Fr.out FS.out ES.out).mono ?_; rintro e x5 ⟨rfl, hk5⟩; have hz5 : Ext wd x5 := hz4.trans hk5)
          | (have _ := hk3; go_at_call 16; refine (Sign_is IR Esr.out _).mono ?_; rintro e x4 ⟨rfl, hk4⟩; have hz4 : Ext wd x4 := hz3.trans hk4)
          | (have _ := hk2; go_at_call 28; refine (Cmp_is 0 N2 (IA.ext hz2) K hK Fqr.out Fx.out EC.out).mono ?_; rintro e x3 ⟨rfl, hk3⟩; have hz3 : Ext wd x3 := hz2.trans hk3)
          | (have _ := hk1; go_at_call 22; refine (Add_any q1 s6 i1 a6 b1 f1 n6 c6 (q * y) r x1 N1 (IR.ext hz1) K hK Fqy.out Fr.out).mono ?_; rintro e x2 ⟨q2, i2, b2, f2, rfl, N2, hk2⟩; have hz2 : Ext wd x2 := hz1.trans hk2)
          | (go_at_call 26; refine (Mul_any s5 s2 a5 a2 n5 c5 n2 c2 q y _ (IQ.ext hVd) (IB.ext hVd) K hK Fq.out Fy.out).mono ?_; rintro e x1 ⟨q1, i1, b1, f1, rfl, N1, hk1⟩; have hz1 : Ext wd x1 := hVd.trans hk1))
      have bA5 := bA.ext hz5; have bB5 := bB.ext hz5; have bF5 := bF.ext hz5
      have IA5 := IA.ext hz5; have IB5 := IB.ext hz5
      have HE5 := hid (HEV.out.trans hz5)
      clear hk1 hk2 hk3 hk4 hk5 hz1 hz2 hz3 hz4 hz5 N1 N2 d0 d1 d2 d3 d4 d5 d6 d7 d8 d9 dF lA lB lQ lR lS lF hVd bA bB bQ bR bS bF IA IB IQ IR IS HEV hsr Fq Fr Fqy Fqr FS EC ES Esr
      have d0 := bA5.c0; have d1 := bA5.c1; have d2 := bB5.c0; have d3 := bB5.c1
      have Hov := hid (Over_any s1 s2 a1 a2 n1 c1 n2 c2 x y x5 IA5 IB5 K hK hK1 Fx.out Fy.out Hy0.out (bru_ext Hbr.out HE5.out))
      go_wp2_with fail
      refine Hov.out.mono ?_
      rintro e wo ⟨s8, a8, n8, c8, s9, a9, n9, c9, p, q', rfl, hI8, hI9, hz, hnz, hxo⟩
      have Hlow := hid (low_facts Hy0.out hz hnz)
      have hEo := Ext.alloc wo (.cells #[.int .i64 s8, .slice a8 n8 c8, .int .i64 s9, .slice a9 n9 c9] 61)
      have bJ0 := qbx_new wo s8 a8 n8 c8 s9 a9 n9 c9
      have bFo := bF5.ext (hxo.trans hEo)
      have g0 := bFo.c0; have g1 := bFo.c1; have h0 := bFo.f0 0; have h1 := bFo.f0 1
      have lFo := Nat.lt_of_lt_of_le bF5.lt hxo.size; have lAo := bA5.lt; have lBo := bB5.lt
      have hkk := Keep64.set2 (.i64 g0) (.i64 g1) (notW_i64 0) (.int .i64 0)
      have I8 := (hI8.ext hEo).keep64 hkk; have I9 := (hI9.ext hEo).keep64 hkk
      have IAo := (IA5.ext (hxo.trans hEo)).keep64 hkk; have IBo := (IB5.ext (hxo.trans hEo)).keep64 hkk
      have bAo := ((bA5.ext (hxo.trans hEo)).put (h := D + 1) (o := 0) (by omega) (.int .i64 0)).put (h := D + 1) (o := 1) (by omega) (.int .i64 0)
      have bBo := ((bB5.ext (hxo.trans hEo)).put (h := D + 1) (o := 0) (by omega) (.int .i64 0)).put (h := D + 1) (o := 1) (by omega) (.int .i64 0)
      have bFp := bFo.own 0 0
      have bJ := (bJ0.put (h := D + 1) (o := 0) (by omega) (.int .i64 0)).put (h := D + 1) (o := 1) (by omega) (.int .i64 0)
      have HEo := hid ((HE5.out.trans (hxo.trans hEo)).put2 (g := D + 1) (o := 0) (o' := 1) (by omega) (.int .i64 0) (.int .i64 0))
      have m0 := bJ.c0; have m1 := bJ.c1; have m2 := bJ.c2; have m3 := bJ.c3
      clear d0 d1 d2 d3 hI8 hI9 hz hnz hkk bJ0 bA5 bB5 bF5 IA5 IB5 HE5 hEo hxo bFo lFo lAo lBo
      go_wp2_with fail
      generalize ((wo.alloc (.cells #[.int .i64 s8, .slice a8 n8 c8, .int .i64 s9, .slice a9 n9 c9] 61)).setCell ⟨D + 1, 0, none⟩ (.int .i64 0)).setCell ⟨D + 1, 1, none⟩ (.int .i64 0) = Wo at *
      generalize wo.heap.size = J at *
      refine (Parts_any s8 s9 a8 a9 n8 c8 n9 c9 p q' Wo I8 I9).mono ?_
      rintro e wp ⟨sT, aT, nT, cT, sL, aL, nL, cL, rfl, hIT, hIL, hxp⟩
      obtain ⟨lo, hlo⟩ : ∃ lo, (if p = 0 then 1 else q') = lo := ⟨_, rfl⟩
      rw [hlo] at hIL Hlow
      have hqp := (Ext.alloc wp (.cells #[.int .i64 sT, .slice aT nT cT] 24)).then (.cells #[.int .i64 sL, .slice aL nL cL] 24)
      have bT := (box_new wp sT aT nT cT).ext (Ext.alloc _ (.cells #[.int .i64 sL, .slice aL nL cL] 24))
      have bL := box_new (wp.alloc (.cells #[.int .i64 sT, .slice aT nT cT] 24)) sL aL nL cL
      rw [show (wp.alloc (.cells #[.int .i64 sT, .slice aT nT cT] 24)).heap.size = wp.heap.size + 1 from by simp] at bL
      have bA := bAo.ext (hxp.trans hqp); have bB := bBo.ext (hxp.trans hqp); have bF := bFp.ext (hxp.trans hqp)
      have IA := IAo.ext (hxp.trans hqp); have IB := IBo.ext (hxp.trans hqp); have IT := hIT.ext hqp; have IL := hIL.ext hqp
      have HEp := hid (HEo.out.trans (hxp.trans hqp))
      clear m0 m1 m2 m3 g0 g1 h0 h1 bJ bAo bBo bFp IAo IBo I8 I9 hIT hIL hlo hqp hxp HEo
      go_wp2_with fail
      generalize (wp.alloc (.cells #[.int .i64 sT, .slice aT nT cT] 24)).alloc (.cells #[.int .i64 sL, .slice aL nL cL] 24) = Wp at *
      generalize wp.heap.size = L at *
      have Fp := hid (Fx.out.le Hlow.out.2.2.2.1)
      have Flo := hid (Fy.out.le Hlow.out.2.2.2.2)
      have Fpy := hid (Hfit.out (p * y) (by have := Hmul.out p y (by have := Hlow.out.2.2.2.1; have := Hx.out; omega) (by have := Hy.out; omega); omega))
      have Flx := hid (Hfit.out (lo * x) (by have := Hmul.out lo x (by have := Hlow.out.2.2.2.2; have := Hy.out; omega) (by have := Hx.out; omega); omega))
      have FG : Hid (Fit K ((Nat.gcd p.natAbs lo.natAbs : Nat) : Int)) := by show Fit _ _; rw [Hlow.out.2.1]; exact Fit.one hK1
      have EP : Hid (cmp3 (p * y) (lo * x) = 0) := cmp3_of_eq Hlow.out.2.2.1
      have EL : Hid (cmp3 lo 0 = 1) := cmp3_gt Hlow.out.1
      have lA := bA.lt; have lB := bB.lt; have lT := bT.lt; have lL := bL.lt; have lF := bF.lt
      have d0 := bA.c0; have d1 := bA.c1; have d2 := bB.c0; have d3 := bB.c1; have d4 := bT.c0; have d5 := bT.c1; have d6 := bL.c0; have d7 := bL.c1; have dF := bF.c0
      have hpd : Ext Wp Wp.drew := Below.drew (Ext.refl _)
      go_region_held3 (fun w' => w'.cell? ⟨D + 1, 0, none⟩ = some (.int .i64 0) ∧ w'.cell? ⟨L, 0, none⟩ = some (.int .i64 sT) ∧ w'.cell? ⟨L, 1, none⟩ = some (.slice aT nT cT) ∧ w'.cell? ⟨L + 1, 0, none⟩ = some (.int .i64 sL) ∧ w'.cell? ⟨L + 1, 1, none⟩ = some (.slice aL nL cL) ∧ w'.cell? ⟨B, 0, none⟩ = some (.int .i64 s2) ∧ w'.cell? ⟨B, 1, none⟩ = some (.slice a2 n2 c2) ∧ w'.cell? ⟨A, 0, none⟩ = some (.int .i64 s1) ∧ w'.cell? ⟨A, 1, none⟩ = some (.slice a1 n1 c1))
        (exact ⟨cellKeep (W := Wp) (by assumption) lF dF, cellKeep (W := Wp) (by assumption) lT d4, cellKeep (W := Wp) (by assumption) lT d5, cellKeep (W := Wp) (by assumption) lL d6, cellKeep (W := Wp) (by assumption) lL d7, cellKeep (W := Wp) (by assumption) lB d2, cellKeep (W := Wp) (by assumption) lB d3, cellKeep (W := Wp) (by assumption) lA d0, cellKeep (W := Wp) (by assumption) lA d1⟩)
        (first
          | (have _ := hm5; go_at_call 28; refine (Cmp_is 0 (R4.ext hm5) R5 K hK Fpy.out Flx.out EP.out).mono ?_; rintro e y6 ⟨rfl, hm6⟩; have hw6 : Ext Wp y6 := hw5.trans hm6)
          | (have _ := hm4; go_at_call 26; refine (Mul_any sL s1 aL a1 nL cL n1 c1 lo x y4 (IL.ext hw4) (IA.ext hw4) K hK Flo.out Fx.out).mono ?_; rintro e y5 ⟨q5, i5, b5, f5, rfl, R5, hm5⟩; have hw5 : Ext Wp y5 := hw4.trans hm5)
          | (have _ := hm3; go_at_call 26; refine (Mul_any sT s2 aT a2 nT cT n2 c2 p y y3 (IT.ext hw3) (IB.ext hw3) K hK Fp.out Fy.out).mono ?_; rintro e y4 ⟨q4, i4, b4, f4, rfl, R4, hm4⟩; have hw4 : Ext Wp y4 := hw3.trans hm4)
          | (have _ := hm2; go_at_call 12; refine (Text_one R2 Hlow.out.2.1 (by have := R2.len FG.out; omega) (tab_ext Htab.out (HEp.out.trans hw2))).mono ?_; rintro e y3 ⟨rfl, hm3⟩; have hw3 : Ext Wp y3 := hw2.trans hm3)
          | (have _ := hm1; go_at_call 32; refine (Gcd_all sT sL aT aL nT cT nL cL p lo y1 (IT.ext hw1) (IL.ext hw1) K hK hK1 Fp.out Flo.out (bru_ext Hbr.out (HEp.out.trans hw1))).mono ?_; rintro e y2 ⟨q2, i2, b2, f2, rfl, R2, hm2⟩; have hw2 : Ext Wp y2 := hw1.trans hm2)
          | (go_at_call 16; refine (Sign_is IL EL.out _).mono ?_; rintro e y1 ⟨rfl, hm1⟩; have hw1 : Ext Wp y1 := hpd.trans hm1))
      go_wp2_with fail
      go_ret
      exact ⟨rfl, HEp.out.trans hw6⟩

end Go.Proofs.YtkadhkchfdnicaaDoor
