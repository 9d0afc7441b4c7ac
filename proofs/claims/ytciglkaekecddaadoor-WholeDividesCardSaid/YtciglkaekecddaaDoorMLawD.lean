/-
  WholeReckons: the walk.
-/
import Derived.Test.YtciglkaekecddaaDoorMLawA
import Derived.Test.YtciglkaekecddaaDoorMZH
import Derived.Test.YtciglkaekecddaaDoorMZL
import Derived.Test.YtciglkaekecddaaDoorMZT

namespace Go.Proofs.YtciglkaekecddaaDoor
open Go.RowKit

theorem zbx2_new (w : World) (b : Bool) (a : Option Addr) (n c : Nat) (u v : Value) : ZBx ((w.alloc (.cells #[.bool b, .slice a n c] 31)).alloc (.cells #[u, v] 26)) w.heap.size b a n c := (zbx_new w b a n c).ext (Ext.alloc _ _)
theorem fbx2_new (w : World) (o : Obj) (u v : Int) : FBx ((w.alloc o).alloc (.cells #[.int .i64 u, .int .i64 v] 26)) (w.heap.size + 1) u v := by
  have h := fbx_new (w.alloc o) u v
  rw [show (w.alloc o).heap.size = w.heap.size + 1 from by simp] at h
  exact h

/-- How ZCmp and Cmp tell the same. -/
theorem zcmp_cmp3 (x y : Int) : (if x - y < 0 then (-1 : Int) else if 0 < x - y then 1 else 0) = cmp3 x y := by
  unfold cmp3
  by_cases h : x < y
  · rw [if_pos (by omega), if_pos h]
  · rw [if_neg (by omega), if_neg h]
    by_cases h2 : y < x
    · rw [if_pos (by omega), if_pos h2]
    · rw [if_neg (by omega), if_neg h2]

set_option maxHeartbeats 8000000 in
set_option maxRecDepth 100000 in
theorem reckons_walk (t1 t2 : ByteArray) (W : World) (ht1 : t1.size ≤ 9223372036854775807) (ht2 : t2.size ≤ 9223372036854775807) (htab : Ten W) :
    Calls Tryd.prog 4 #[.string t1, .string t2] W fun e w' => e = .returned (.bool true) ∧ Ext W w' := by
  obtain ⟨K, Q, hK, hK1, hLQ, hKt, hmul, hfit⟩ := lim_room
  have Hp1 := hid (fun wx => Parse_any t1 wx ht1); have Hp2 := hid (fun wx => Parse_any t2 wx ht2)
  have Hz1 := hid (fun wx => ZParse_any t1 wx ht1); have Hz2 := hid (fun wx => ZParse_any t2 wx ht2)
  have hx := pz_lt (bs t1); have hy := pz_lt (bs t2)
  obtain ⟨x, ex⟩ : ∃ x, pz (bs t1) = x := ⟨_, rfl⟩
  obtain ⟨y, ey⟩ : ∃ y, pz (bs t2) = y := ⟨_, rfl⟩
  obtain ⟨p1, ep1⟩ : ∃ p1 : Int, ((pcode (bs t1) : Nat) : Int) = p1 := ⟨_, rfl⟩
  obtain ⟨p1', ep1'⟩ : ∃ p1' : Int, ((pat (bs t1) : Nat) : Int) = p1' := ⟨_, rfl⟩
  obtain ⟨p2, ep2⟩ : ∃ p2 : Int, ((pcode (bs t2) : Nat) : Int) = p2 := ⟨_, rfl⟩
  obtain ⟨p2', ep2'⟩ : ∃ p2' : Int, ((pat (bs t2) : Nat) : Int) = p2' := ⟨_, rfl⟩
  rw [ex] at hx Hp1 Hz1; rw [ey] at hy Hp2 Hz2
  rw [ep1, ep1'] at Hp1 Hz1; rw [ep2, ep2'] at Hp2 Hz2
  have Htab := hid htab
  have Fx := hid (hfit x (by omega)); have Fy := hid (hfit y (by omega))
  have bxy := hmul x y (by omega) (by omega)
  have F1 := hid (hfit (x + y) (by omega)); have F2 := hid (hfit (x - y) (by omega)); have F3 := hid (hfit (x * y) (by omega))
  obtain ⟨k, ek⟩ : ∃ k, cmp3 x y = k := ⟨_, rfl⟩
  obtain ⟨k', ek'⟩ : ∃ k', cmp3 y x = k' := ⟨_, rfl⟩
  have Ek := hid ek; have Ek' := hid ek'
  have Zk : Hid (k = if x - y < 0 then -1 else if 0 < x - y then 1 else 0) := by show _ = _; rw [zcmp_cmp3]; exact ek.symm
  have Zk' : Hid (k' = if y - x < 0 then -1 else if 0 < y - x then 1 else 0) := by show _ = _; rw [zcmp_cmp3]; exact ek'.symm
  clear ex ey ep1 ep1' ep2 ep2' hx hy hmul hfit htab bxy ek ek' hLQ
  go_enter Tryd.func4, Tryd.ntmps4
  go_wp2_with fail
  refine (Hp1.out _).mono ?_
  rintro e w1 ⟨s1, a1, n1, c1, rfl, hI1, hx1⟩
  have bA := box2_new w1 s1 a1 n1 c1 (.int .i64 p1) (.int .i64 p1')
  have fA := fbx2_new w1 (.cells #[.int .i64 s1, .slice a1 n1 c1] 24) p1 p1'
  have hq1 := hx1.trans (ext2_new w1 (.cells #[.int .i64 s1, .slice a1 n1 c1] 24) (.cells #[.int .i64 p1, .int .i64 p1'] 26))
  have I1 := hI1.ext (ext2_new w1 (.cells #[.int .i64 s1, .slice a1 n1 c1] 24) (.cells #[.int .i64 p1, .int .i64 p1'] 26))
  go_wp2_with fail
  generalize (w1.alloc (.cells #[.int .i64 s1, .slice a1 n1 c1] 24)).alloc (.cells #[.int .i64 p1, .int .i64 p1'] 26) = W1 at *
  generalize w1.heap.size = A at *
  refine (Hp2.out _).mono ?_
  rintro e w2 ⟨s2, a2, n2, c2, rfl, hI2, hx2⟩
  have bB := box2_new w2 s2 a2 n2 c2 (.int .i64 p2) (.int .i64 p2')
  have fB := fbx2_new w2 (.cells #[.int .i64 s2, .slice a2 n2 c2] 24) p2 p2'
  have hq2 := hx2.trans (ext2_new w2 (.cells #[.int .i64 s2, .slice a2 n2 c2] 24) (.cells #[.int .i64 p2, .int .i64 p2'] 26))
  have I2 := hI2.ext (ext2_new w2 (.cells #[.int .i64 s2, .slice a2 n2 c2] 24) (.cells #[.int .i64 p2, .int .i64 p2'] 26))
  go_wp2_with fail
  generalize (w2.alloc (.cells #[.int .i64 s2, .slice a2 n2 c2] 24)).alloc (.cells #[.int .i64 p2, .int .i64 p2'] 26) = W2 at *
  generalize w2.heap.size = B at *
  refine (Hz1.out _).mono ?_
  rintro e w3 ⟨b3, a3, n3, c3, rfl, hI3, hm3, hx3⟩
  have bC := zbx2_new w3 b3 a3 n3 c3 (.int .i64 p1) (.int .i64 p1')
  have fC := fbx2_new w3 (.cells #[.bool b3, .slice a3 n3 c3] 31) p1 p1'
  have hq3 := hx3.trans (ext2_new w3 (.cells #[.bool b3, .slice a3 n3 c3] 31) (.cells #[.int .i64 p1, .int .i64 p1'] 26))
  have I3 := hI3.ext (ext2_new w3 (.cells #[.bool b3, .slice a3 n3 c3] 31) (.cells #[.int .i64 p1, .int .i64 p1'] 26))
  go_wp2_with fail
  generalize (w3.alloc (.cells #[.bool b3, .slice a3 n3 c3] 31)).alloc (.cells #[.int .i64 p1, .int .i64 p1'] 26) = W3 at *
  generalize w3.heap.size = C at *
  refine (Hz2.out _).mono ?_
  rintro e w4 ⟨b4, a4, n4, c4, rfl, hI4, hm4, hx4⟩
  have bD := zbx2_new w4 b4 a4 n4 c4 (.int .i64 p2) (.int .i64 p2')
  have fD := fbx2_new w4 (.cells #[.bool b4, .slice a4 n4 c4] 31) p2 p2'
  have hq4 := hx4.trans (ext2_new w4 (.cells #[.bool b4, .slice a4 n4 c4] 31) (.cells #[.int .i64 p2, .int .i64 p2'] 26))
  have I4 := hI4.ext (ext2_new w4 (.cells #[.bool b4, .slice a4 n4 c4] 31) (.cells #[.int .i64 p2, .int .i64 p2'] 26))
  go_wp2_with fail
  generalize (w4.alloc (.cells #[.bool b4, .slice a4 n4 c4] 31)).alloc (.cells #[.int .i64 p2, .int .i64 p2'] 26) = W4 at *
  generalize w4.heap.size = D at *
  have bA := bA.ext (hq2.trans (hq3.trans hq4)); have fA := fA.ext (hq2.trans (hq3.trans hq4)); have IA := I1.ext (hq2.trans (hq3.trans hq4))
  have bB := bB.ext (hq3.trans hq4); have fB := fB.ext (hq3.trans hq4); have IB := I2.ext (hq3.trans hq4)
  have bC := bC.ext hq4; have fC := fC.ext hq4; have IC := I3.ext hq4; have ID := I4
  have HE4 := hid (hq1.trans (hq2.trans (hq3.trans hq4)))
  clear I1 I2 I3 I4 hI1 hI2 hI3 hI4 hq1 hq2 hq3 hq4 hx1 hx2 hx3 hx4 Hp1 Hp2 Hz1 Hz2
  refine (wholeBegun_any W4 (tab_ext Htab.out HE4.out)).mono ?_
  rintro e u0 ⟨rfl, hy0⟩
  have bA := bA.ext hy0; have fA := fA.ext hy0; have IA := IA.ext hy0
  have bB := bB.ext hy0; have fB := fB.ext hy0; have IB := IB.ext hy0
  have bC := bC.ext hy0; have fC := fC.ext hy0; have IC := IC.ext hy0
  have bD := bD.ext hy0; have fD := fD.ext hy0; have ID := ID.ext hy0
  have HE5 := hid (HE4.out.trans hy0)
  clear HE4 hy0
  have g0 := fA.c0; have g1 := fA.c1; have g2 := fB.c0; have g3 := fB.c1; have g4 := fC.c0; have g5 := fC.c1; have g6 := fD.c0; have g7 := fD.c1
  have lA := bA.lt; have lB := bB.lt; have lC := bC.lt; have lD := bD.lt
  have d0 := bA.c0; have d1 := bA.c1; have d2 := bB.c0; have d3 := bB.c1; have d4 := bC.c0; have d5 := bC.c1; have d6 := bD.c0; have d7 := bD.c1
  have hr1 : (p1 == p1) = true := by simp
  have hNA := IA.len Fx.out; have hNB := IB.len Fy.out
  go_wp2_with fail
  clear g0 g1 g2 g3 g4 g5 g6 g7 fA fB fC fD bA bB bC bD
  have h0d : Ext u0 u0.drew := Below.drew (Ext.refl _)
  go_region_held3 (fun w' => w'.cell? ⟨A, 0, none⟩ = some (.int .i64 s1) ∧ w'.cell? ⟨A, 1, none⟩ = some (.slice a1 n1 c1) ∧ w'.cell? ⟨B, 0, none⟩ = some (.int .i64 s2) ∧ w'.cell? ⟨B, 1, none⟩ = some (.slice a2 n2 c2) ∧ w'.cell? ⟨C, 0, none⟩ = some (.bool b3) ∧ w'.cell? ⟨C, 1, none⟩ = some (.slice a3 n3 c3) ∧ w'.cell? ⟨D, 0, none⟩ = some (.bool b4) ∧ w'.cell? ⟨D, 1, none⟩ = some (.slice a4 n4 c4))
    (exact ⟨cellKeep (W := u0) (by assumption) lA d0, cellKeep (W := u0) (by assumption) lA d1, cellKeep (W := u0) (by assumption) lB d2, cellKeep (W := u0) (by assumption) lB d3, cellKeep (W := u0) (by assumption) lC d4, cellKeep (W := u0) (by assumption) lC d5, cellKeep (W := u0) (by assumption) lD d6, cellKeep (W := u0) (by assumption) lD d7⟩)
    (first
      | (have _ := qv10; go_at_call 13; refine (ZText_any sv10 ov10 mv10 jv10 (x * y) v10 Kv10 (by omega)).mono ?_; rintro e v11 ⟨rfl, qv11⟩; have hv11 : Ext u0 v11 := hv10.trans qv11)
      | (have _ := qv9; go_at_call 27; refine (ZMul_any b3 b4 a3 a4 n3 c3 n4 c4 x y _ (IC.ext hv9) (ID.ext hv9) (by omega) (by omega)).mono ?_; rintro e v10 ⟨sv10, ov10, mv10, jv10, rfl, Kv10, Lv10, qv10⟩; have hv10 : Ext u0 v10 := hv9.trans qv10)
      | (have _ := qv8; go_at_call 12; refine (Text_any sv8 ov8 mv8 jv8 (x * y) v8 Kv8 (Nat.le_trans (Kv8.len F3.out) hKt) (tab_ext Htab.out (HE5.out.trans hv8))).mono ?_; rintro e v9 ⟨rfl, qv9⟩; have hv9 : Ext u0 v9 := hv8.trans qv9)
      | (have _ := qv7; go_at_call 26; refine (Mul_any s1 s2 a1 a2 n1 c1 n2 c2 x y _ (IA.ext hv7) (IB.ext hv7) K hK Fx.out Fy.out).mono ?_; rintro e v8 ⟨sv8, ov8, mv8, jv8, rfl, Kv8, qv8⟩; have hv8 : Ext u0 v8 := hv7.trans qv8)
      | (have _ := qv6; go_at_call 13; refine (ZText_any sv6 ov6 mv6 jv6 (x - y) v6 Kv6 (by omega)).mono ?_; rintro e v7 ⟨rfl, qv7⟩; have hv7 : Ext u0 v7 := hv6.trans qv7)
      | (have _ := qv5; go_at_call 25; refine (ZSub_any b3 b4 a3 a4 n3 c3 n4 c4 x y _ (IC.ext hv5) (ID.ext hv5) (by omega) (by omega)).mono ?_; rintro e v6 ⟨sv6, ov6, mv6, jv6, rfl, Kv6, Lv6, qv6⟩; have hv6 : Ext u0 v6 := hv5.trans qv6)
      | (have _ := qv4; go_at_call 12; refine (Text_any sv4 ov4 mv4 jv4 (x - y) v4 Kv4 (Nat.le_trans (Kv4.len F2.out) hKt) (tab_ext Htab.out (HE5.out.trans hv4))).mono ?_; rintro e v5 ⟨rfl, qv5⟩; have hv5 : Ext u0 v5 := hv4.trans qv5)
      | (have _ := qv3; go_at_call 24; refine (Sub_any s1 s2 a1 a2 n1 c1 n2 c2 x y _ (IA.ext hv3) (IB.ext hv3) K hK Fx.out Fy.out).mono ?_; rintro e v4 ⟨sv4, ov4, mv4, jv4, rfl, Kv4, qv4⟩; have hv4 : Ext u0 v4 := hv3.trans qv4)
      | (have _ := qv2; go_at_call 13; refine (ZText_any sv2 ov2 mv2 jv2 (x + y) v2 Kv2 (by omega)).mono ?_; rintro e v3 ⟨rfl, qv3⟩; have hv3 : Ext u0 v3 := hv2.trans qv3)
      | (have _ := qv1; go_at_call 23; refine (ZAdd_any b3 b4 a3 a4 n3 c3 n4 c4 x y _ (IC.ext hv1) (ID.ext hv1) (by omega) (by omega)).mono ?_; rintro e v2 ⟨sv2, ov2, mv2, jv2, rfl, Kv2, Lv2, qv2⟩; have hv2 : Ext u0 v2 := hv1.trans qv2)
      | (have _ := qv0; go_at_call 12; refine (Text_any sv0 ov0 mv0 jv0 (x + y) v0 Kv0 (Nat.le_trans (Kv0.len F1.out) hKt) (tab_ext Htab.out (HE5.out.trans hv0))).mono ?_; rintro e v1 ⟨rfl, qv1⟩; have hv1 : Ext u0 v1 := hv0.trans qv1)
      | (go_at_call 22; refine (Add_any s1 s2 a1 a2 n1 c1 n2 c2 x y _ (IA.ext (by assumption)) (IB.ext (by assumption)) K hK Fx.out Fy.out).mono ?_; rintro e v0 ⟨sv0, ov0, mv0, jv0, rfl, Kv0, qv0⟩; have hv0 : Ext u0 v0 := Ext.trans (by assumption) qv0))
  have IA := IA.ext hv11; have IB := IB.ext hv11; have IC := IC.ext hv11; have ID := ID.ext hv11
  have HE6 := hid (HE5.out.trans hv11)
  have d0 := cellKeep hv11 lA d0; have d1 := cellKeep hv11 lA d1; have d2 := cellKeep hv11 lB d2; have d3 := cellKeep hv11 lB d3; have d4 := cellKeep hv11 lC d4; have d5 := cellKeep hv11 lC d5; have d6 := cellKeep hv11 lD d6; have d7 := cellKeep hv11 lD d7
  have lA := Nat.lt_of_lt_of_le lA hv11.size; have lB := Nat.lt_of_lt_of_le lB hv11.size; have lC := Nat.lt_of_lt_of_le lC hv11.size; have lD := Nat.lt_of_lt_of_le lD hv11.size
  clear HE5 h0d hv0 qv0 hv1 qv1 hv2 qv2 hv3 qv3 hv4 qv4 hv5 qv5 hv6 qv6 hv7 qv7 hv8 qv8 hv9 qv9 hv10 qv10 hv11 qv11 Kv0 Kv2 Kv4 Kv6 Kv8 Kv10 Lv2 Lv6 Lv10
  have h6d : Ext v11 v11.drew := Below.drew (Ext.refl _)
  go_wp2_with fail
  go_region_held3 (fun w' => w'.cell? ⟨A, 0, none⟩ = some (.int .i64 s1) ∧ w'.cell? ⟨A, 1, none⟩ = some (.slice a1 n1 c1) ∧ w'.cell? ⟨B, 0, none⟩ = some (.int .i64 s2) ∧ w'.cell? ⟨B, 1, none⟩ = some (.slice a2 n2 c2) ∧ w'.cell? ⟨C, 0, none⟩ = some (.bool b3) ∧ w'.cell? ⟨C, 1, none⟩ = some (.slice a3 n3 c3) ∧ w'.cell? ⟨D, 0, none⟩ = some (.bool b4) ∧ w'.cell? ⟨D, 1, none⟩ = some (.slice a4 n4 c4))
    (exact ⟨cellKeep (W := v11) (by assumption) lA d0, cellKeep (W := v11) (by assumption) lA d1, cellKeep (W := v11) (by assumption) lB d2, cellKeep (W := v11) (by assumption) lB d3, cellKeep (W := v11) (by assumption) lC d4, cellKeep (W := v11) (by assumption) lC d5, cellKeep (W := v11) (by assumption) lD d6, cellKeep (W := v11) (by assumption) lD d7⟩)
    (first
      | (have _ := qr6; go_at_call 13; refine (ZText_any b4 a4 n4 c4 y _ (ID.ext hr6) (by omega)).mono ?_; rintro e r7 ⟨rfl, qr7⟩; have hr7 : Ext v11 r7 := hr6.trans qr7)
      | (have _ := qr5; go_at_call 12; refine (Text_any s2 a2 n2 c2 y _ (IB.ext hr5) (by omega) (tab_ext Htab.out (HE6.out.trans hr5))).mono ?_; rintro e r6 ⟨rfl, qr6⟩; have hr6 : Ext v11 r6 := hr5.trans qr6)
      | (have _ := qr4; go_at_call 13; refine (ZText_any b3 a3 n3 c3 x _ (IC.ext hr4) (by omega)).mono ?_; rintro e r5 ⟨rfl, qr5⟩; have hr5 : Ext v11 r5 := hr4.trans qr5)
      | (have _ := qr3; go_at_call 12; refine (Text_any s1 a1 n1 c1 x _ (IA.ext hr3) (by omega) (tab_ext Htab.out (HE6.out.trans hr3))).mono ?_; rintro e r4 ⟨rfl, qr4⟩; have hr4 : Ext v11 r4 := hr3.trans qr4)
      | (have _ := qr2; go_at_call 29; refine (ZCmp_any b4 b3 a4 a3 n4 c4 n3 c3 y x _ (ID.ext hr2) (IC.ext hr2) (by omega) (by omega) k' Zk'.out).mono ?_; rintro e r3 ⟨rfl, qr3⟩; have hr3 : Ext v11 r3 := hr2.trans qr3)
      | (have _ := qr1; go_at_call 28; refine (Cmp_is k' (IB.ext hr1) (IA.ext hr1) K hK Fy.out Fx.out Ek'.out).mono ?_; rintro e r2 ⟨rfl, qr2⟩; have hr2 : Ext v11 r2 := hr1.trans qr2)
      | (have _ := qr0; go_at_call 29; refine (ZCmp_any b3 b4 a3 a4 n3 c3 n4 c4 x y _ (IC.ext hr0) (ID.ext hr0) (by omega) (by omega) k Zk.out).mono ?_; rintro e r1 ⟨rfl, qr1⟩; have hr1 : Ext v11 r1 := hr0.trans qr1)
      | (go_at_call 28; refine (Cmp_is k (IA.ext (by assumption)) (IB.ext (by assumption)) K hK Fx.out Fy.out Ek.out).mono ?_; rintro e r0 ⟨rfl, qr0⟩; have hr0 : Ext v11 r0 := Ext.trans (by assumption) qr0))
  go_wp2_with fail
  go_ret
  exact ⟨rfl, HE6.out.trans hr7⟩

end Go.Proofs.YtciglkaekecddaaDoor
