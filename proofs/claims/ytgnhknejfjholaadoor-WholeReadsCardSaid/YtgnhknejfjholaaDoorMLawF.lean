/-
  WholeReads: the walk.
-/
import Derived.Test.YtgnhknejfjholaaDoorMLawD
import Derived.Test.YtgnhknejfjholaaDoorMZR

namespace Go.Proofs.YtgnhknejfjholaaDoor
open Go.RowKit

theorem Twos_is (sm : Int) (ao : Option Addr) (n c : Nat) (z : Int) (w : World) (h : IsInt w sm ao n c z) (hn : n ≤ 16777216) (hbr : Bru w) (T : Nat) (hT : (z ≠ 0 → Tw z.natAbs T) ∧ (z = 0 → T = 0)) :
    Calls Tryd.prog 20 #[.agg #[.int .i64 sm, .slice ao n c]] w fun e w' => e = .returned (.int .i64 T) ∧ Ext w w' :=
  (Twos_any sm ao n c z w h hn hbr).mono fun _ _ ⟨t, h1, h2, h3, _, h4⟩ => ⟨by rw [h1, twos_one hT h2 h3], h4⟩

set_option maxHeartbeats 8000000 in
set_option maxRecDepth 100000 in
theorem reads_good (t1 : ByteArray) (m : Int) (W : World) (ht1 : t1.size ≤ 9223372036854775807) (hm1 : -9223372036854775808 ≤ m) (hm2 : m ≤ 9223372036854775807) (htab : Ten W) (hbr : Bru W) (hpc0 : pcode (bs t1) = 0) :
    Calls Tryd.prog 3 #[.string t1, .int .i64 m] W fun e w' => e = .returned (.bool true) ∧ Ext W w' := by
  obtain ⟨K, Q, hK, hK1, hLQ, hKt, hmul, hfit⟩ := lim_room
  have Hp1 := hid (fun wx => Parse_any t1 wx ht1)
  have Hz1 := hid (fun wx => ZParse_any t1 wx ht1)
  have hx := pz_lt (bs t1)
  have hbk := itoa_back t1
  obtain ⟨x, ex⟩ : ∃ x, pz (bs t1) = x := ⟨_, rfl⟩
  obtain ⟨p1, ep1⟩ : ∃ p1 : Int, ((pcode (bs t1) : Nat) : Int) = p1 := ⟨_, rfl⟩
  obtain ⟨p1', ep1'⟩ : ∃ p1' : Int, ((pat (bs t1) : Nat) : Int) = p1' := ⟨_, rfl⟩
  have Hbk : Hid (p1 = 0 → (⟨(Lib.itoa x).toArray⟩ : ByteArray) = t1) := by
    intro h0
    rw [← ex]
    exact hbk (by omega)
  have Hpc : Hid (p1 = 0) := by show _ = _; rw [← ep1, hpc0]; rfl
  rw [ex] at hx Hp1 Hz1
  rw [ep1, ep1'] at Hp1 Hz1
  have Htab := hid htab; have Hbr := hid hbr
  have Fx := hid (hfit x (by omega)); have Fnx := hid (hfit (-x) (by omega))
  obtain ⟨T, hT⟩ := twos_ex x
  have HT := hid hT
  obtain ⟨k, ek⟩ : ∃ k, cmp3 x 0 = k := ⟨_, rfl⟩
  have Ek := hid ek
  have HS := hid (fun sm ao n c wx h => Small_is sm ao n c x wx h)
  have HZS := hid (fun neg ao n c wx h hn => ZSmall_any neg ao n c x wx h hn)
  obtain ⟨sn, hsn⟩ : ∃ sn, smN x = sn := ⟨_, rfl⟩
  obtain ⟨sb, hsb⟩ : ∃ sb, smB x = sb := ⟨_, rfl⟩
  rw [hsn, hsb] at HS HZS
  have hsr : (sb == sb) = true := by simp
  have HOf := hid (fun wx => Of_any m hm1 hm2 wx)
  have HZOf := hid (fun wx => ZOf_any m hm1 hm2 wx)
  clear hpc0 ex ep1 ep1' hx hmul hfit htab hbr hLQ hbk hT ek hsn hsb
  go_enter Tryd.func3, Tryd.ntmps3
  go_wp2_with fail
  refine (Hp1.out _).mono ?_
  rintro e w1 ⟨s1, a1, n1, c1, rfl, hI1, hx1⟩
  have bA := box2_new w1 s1 a1 n1 c1 (.int .i64 p1) (.int .i64 p1')
  have fA := fbx2_new w1 (.cells #[.int .i64 s1, .slice a1 n1 c1] 24) p1 p1'
  have hq1 := hx1.trans (ext2_new w1 (.cells #[.int .i64 s1, .slice a1 n1 c1] 24) (.cells #[.int .i64 p1, .int .i64 p1'] 26))
  have I1 := hI1.ext (ext2_new w1 (.cells #[.int .i64 s1, .slice a1 n1 c1] 24) (.cells #[.int .i64 p1, .int .i64 p1'] 26))
  go_wp2_with fail
  generalize (w1.alloc (.cells #[.int .i64 s1, .slice a1 n1 c1] 24)).alloc (.cells #[.int .i64 p1, .int .i64 p1'] 26) = W1 at *
  generalize w1.heap.size = A at *
  refine (Hz1.out _).mono ?_
  rintro e w2 ⟨b2, a2, n2, c2, rfl, hI2, hm2', hx2⟩
  have bC := zbx2_new w2 b2 a2 n2 c2 (.int .i64 p1) (.int .i64 p1')
  have fC := fbx2_new w2 (.cells #[.bool b2, .slice a2 n2 c2] 31) p1 p1'
  have hq2 := hx2.trans (ext2_new w2 (.cells #[.bool b2, .slice a2 n2 c2] 31) (.cells #[.int .i64 p1, .int .i64 p1'] 26))
  have I2 := hI2.ext (ext2_new w2 (.cells #[.bool b2, .slice a2 n2 c2] 31) (.cells #[.int .i64 p1, .int .i64 p1'] 26))
  go_wp2_with fail
  generalize (w2.alloc (.cells #[.bool b2, .slice a2 n2 c2] 31)).alloc (.cells #[.int .i64 p1, .int .i64 p1'] 26) = W2 at *
  generalize w2.heap.size = C at *
  have bA := bA.ext hq2; have fA := fA.ext hq2; have IA := I1.ext hq2; have IC := I2
  have HE4 := hid (hq1.trans hq2)
  clear I1 I2 hI1 hI2 hq1 hq2 hx1 hx2 Hp1 Hz1
  refine (wholeBegun_any W2 (tab_ext Htab.out HE4.out)).mono ?_
  rintro e u0 ⟨rfl, hy0⟩
  have bA := bA.ext hy0; have fA := fA.ext hy0; have IA := IA.ext hy0
  have bC := bC.ext hy0; have fC := fC.ext hy0; have IC := IC.ext hy0
  have HE5 := hid (HE4.out.trans hy0)
  clear HE4 hy0
  have g0 := fA.c0; have g1 := fA.c1; have g4 := fC.c0; have g5 := fC.c1
  have d0 := bA.c0; have d1 := bA.c1; have d4 := bC.c0; have d5 := bC.c1
  have hNA := IA.len Fx.out
  go_wp2_with fail
  refine (HS.out s1 a1 n1 c1 _ IA).mono ?_
  rintro e u1 ⟨rfl, hy1⟩
  clear g0 g1 g4 g5 d0 d1 d4 d5
  have bA := bA.ext hy1; have IA := IA.ext hy1
  have bC := bC.ext hy1; have fC := fC.ext hy1; have IC := IC.ext hy1
  have HE6 := hid (HE5.out.trans hy1)
  have d4 := bC.c0; have d5 := bC.c1
  clear HE5 hy1 fA
  go_wp2_with fail
  refine (HZS.out b2 a2 n2 c2 _ IC (by omega)).mono ?_
  rintro e u2 ⟨rfl, hy2⟩
  clear d4 d5
  have bA := bA.ext hy2; have IA := IA.ext hy2
  have bC := bC.ext hy2; have fC := fC.ext hy2; have IC := IC.ext hy2
  have HE7 := hid (HE6.out.trans hy2)
  clear HE6 hy2 HS HZS
  have lA := bA.lt; have lC := bC.lt; have lF := fC.lt
  have d0 := bA.c0; have d1 := bA.c1; have d2 := bC.c0; have d3 := bC.c1; have d4 := fC.c0
  clear bA bC fC
  have h0d : Ext u2 u2.drew := Below.drew (Ext.refl _)
  go_wp2_with fail
  have hbk := Hbk.out Hpc.out
  have hpb : (p1 == 0) = true := by rw [Hpc.out]; rfl
  go_region_held3 (fun w' => w'.cell? ⟨A, 0, none⟩ = some (.int .i64 s1) ∧ w'.cell? ⟨A, 1, none⟩ = some (.slice a1 n1 c1) ∧ w'.cell? ⟨C, 0, none⟩ = some (.bool b2) ∧ w'.cell? ⟨C, 1, none⟩ = some (.slice a2 n2 c2) ∧ w'.cell? ⟨C + 1, 0, none⟩ = some (.int .i64 p1))
    (exact ⟨cellKeep (W := u2) (by assumption) lA d0, cellKeep (W := u2) (by assumption) lA d1, cellKeep (W := u2) (by assumption) lC d2, cellKeep (W := u2) (by assumption) lC d3, cellKeep (W := u2) (by assumption) lF d4⟩)
    (first
      | (have _ := qv5; go_at_call 13; refine (ZText_any sv5 ov5 mv5 jv5 m v5 Kv5 (by omega)).mono ?_; rintro e v6 ⟨rfl, qv6⟩; have hv6 : Ext u2 v6 := hv5.trans qv6)
      | (have _ := qv4; go_at_call 15; refine (HZOf.out _).mono ?_; rintro e v5 ⟨sv5, ov5, mv5, jv5, rfl, Kv5, Lv5, qv5⟩; have hv5 : Ext u2 v5 := hv4.trans qv5)
      | (have _ := qv3; go_at_call 12; refine (Text_any m none 0 0 m v3 Kv3 (by omega) (tab_ext Htab.out (HE7.out.trans hv3))).mono ?_; rintro e v4 ⟨rfl, qv4⟩; have hv4 : Ext u2 v4 := hv3.trans qv4)
      | (have _ := qv2; go_at_call 14; refine (HOf.out _).mono ?_; rintro e v3 ⟨rfl, Kv3, qv3⟩; have hv3 : Ext u2 v3 := hv2.trans qv3)
      | (have _ := qv1; go_at_call 13; refine (ZText_any b2 a2 n2 c2 x _ (IC.ext hv1) (by omega)).mono ?_; rintro e v2 ⟨rfl, qv2⟩; have hv2 : Ext u2 v2 := hv1.trans qv2)
      | (have _ := qv0; go_at_call 12; refine (Text_any s1 a1 n1 c1 x _ (IA.ext hv0) (by omega) (tab_ext Htab.out (HE7.out.trans hv0))).mono ?_; rintro e v1 ⟨rfl, qv1⟩; have hv1 : Ext u2 v1 := hv0.trans qv1)
      | (go_at_call 12; refine (Text_any s1 a1 n1 c1 x _ (IA.ext (by assumption)) (by omega) (tab_ext Htab.out (HE7.out.trans (by assumption)))).mono ?_; rintro e v0 ⟨rfl, qv0⟩; have hv0 : Ext u2 v0 := Ext.trans (by assumption) qv0))
  have IA := IA.ext hv6; have IC := IC.ext hv6
  have HE8 := hid (HE7.out.trans hv6)
  have d0 := cellKeep hv6 lA d0; have d1 := cellKeep hv6 lA d1; have d2 := cellKeep hv6 lC d2; have d3 := cellKeep hv6 lC d3
  have lA := Nat.lt_of_lt_of_le lA hv6.size; have lC := Nat.lt_of_lt_of_le lC hv6.size
  clear hbk hpb HE7 h0d d4 lF Hbk HOf HZOf Hpc hv0 qv0 hv1 qv1 hv2 qv2 hv3 qv3 hv4 qv4 hv5 qv5 hv6 qv6 Kv3 Kv5 Lv5
  have h6d : Ext v6 v6.drew := Below.drew (Ext.refl _)
  go_wp2_with fail
  go_region_held3 (fun w' => w'.cell? ⟨A, 0, none⟩ = some (.int .i64 s1) ∧ w'.cell? ⟨A, 1, none⟩ = some (.slice a1 n1 c1) ∧ w'.cell? ⟨C, 0, none⟩ = some (.bool b2) ∧ w'.cell? ⟨C, 1, none⟩ = some (.slice a2 n2 c2))
    (exact ⟨cellKeep (W := v6) (by assumption) lA d0, cellKeep (W := v6) (by assumption) lA d1, cellKeep (W := v6) (by assumption) lC d2, cellKeep (W := v6) (by assumption) lC d3⟩)
    (first
      | (have _ := qr6; go_at_call 21; refine (ZTwos_is b2 a2 n2 c2 x _ (IC.ext hr6) (by omega) T HT.out).mono ?_; rintro e r7 ⟨rfl, qr7⟩; have hr7 : Ext v6 r7 := hr6.trans qr7)
      | (have _ := qr5; go_at_call 20; refine (Twos_is s1 a1 n1 c1 x _ (IA.ext hr5) (by omega) (bru_ext Hbr.out (HE8.out.trans hr5)) T HT.out).mono ?_; rintro e r6 ⟨rfl, qr6⟩; have hr6 : Ext v6 r6 := hr5.trans qr6)
      | (have _ := qr4; go_at_call 13; refine (ZText_any sr4 or4 mr4 jr4 (-x) r4 Kr4 (by omega)).mono ?_; rintro e r5 ⟨rfl, qr5⟩; have hr5 : Ext v6 r5 := hr4.trans qr5)
      | (have _ := qr3; go_at_call 19; refine (ZNeg_any b2 a2 n2 c2 x _ (IC.ext hr3) (by omega)).mono ?_; rintro e r4 ⟨sr4, or4, mr4, jr4, rfl, Kr4, Lr4, qr4⟩; have hr4 : Ext v6 r4 := hr3.trans qr4)
      | (have _ := qr2; go_at_call 12; refine (Text_any sr2 or2 mr2 jr2 (-x) r2 Kr2 (Nat.le_trans (Kr2.len Fnx.out) hKt) (tab_ext Htab.out (HE8.out.trans hr2))).mono ?_; rintro e r3 ⟨rfl, qr3⟩; have hr3 : Ext v6 r3 := hr2.trans qr3)
      | (have _ := qr1; go_at_call 18; refine (Neg_any s1 a1 n1 c1 x _ (IA.ext hr1)).mono ?_; rintro e r2 ⟨sr2, or2, mr2, jr2, rfl, Kr2, qr2⟩; have hr2 : Ext v6 r2 := hr1.trans qr2)
      | (have _ := qr0; go_at_call 17; refine (ZSign_any b2 a2 n2 c2 x _ (IC.ext hr0) k Ek.out).mono ?_; rintro e r1 ⟨rfl, qr1⟩; have hr1 : Ext v6 r1 := hr0.trans qr1)
      | (go_at_call 16; refine (Sign_is IA Ek.out _).mono ?_; rintro e r0 ⟨rfl, qr0⟩; have hr0 : Ext v6 r0 := Ext.trans (by assumption) qr0))
  go_wp2_with fail
  go_ret
  exact ⟨rfl, HE8.out.trans hr7⟩

end Go.Proofs.YtgnhknejfjholaaDoor
