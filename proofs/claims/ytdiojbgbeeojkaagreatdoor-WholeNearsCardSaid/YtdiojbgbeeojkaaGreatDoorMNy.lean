/-
  WholeNears: the walk.
-/
import Derived.Test.YtdiojbgbeeojkaaGreatDoorMNw
import Derived.Test.YtdiojbgbeeojkaaGreatDoorMNx
import Derived.Test.YtdiojbgbeeojkaaGreatDoorMFzC
import Derived.Test.YtdiojbgbeeojkaaGreatDoorMFv
import Derived.Test.YtdiojbgbeeojkaaGreatDoorMZH

namespace Go.Proofs.YtdiojbgbeeojkaaGreatDoor
open Go.RowKit

theorem near_pow (n m x : Nat) (hx : x ≤ 2 ^ (4 * n)) (h : 12 * n + 2 ≤ 64 * m) : (x + 1) * x * x < B64 ^ m := by
  have h0 : 1 ≤ 2 ^ (4 * n) := Nat.pow_pos (by decide)
  have h1 : (x + 1) * x * x ≤ (2 ^ 1 * 2 ^ (4 * n)) * 2 ^ (4 * n) * 2 ^ (4 * n) := Nat.mul_le_mul (Nat.mul_le_mul (by omega) hx) hx
  refine Nat.lt_of_le_of_lt h1 ?_
  rw [B64_two, ← Nat.pow_add, ← Nat.pow_add, ← Nat.pow_add, ← Nat.pow_mul]
  exact Nat.pow_lt_pow_right (by decide) (by omega)
theorem near_dig (n m x : Nat) (hx : x ≤ 2 ^ (4 * n)) (h : 12 * n + 2 ≤ m) : (x + 1) * x * x < 10000 ^ m := by
  have h0 : 1 ≤ 2 ^ (4 * n) := Nat.pow_pos (by decide)
  have h1 : (x + 1) * x * x ≤ (2 ^ 1 * 2 ^ (4 * n)) * 2 ^ (4 * n) * 2 ^ (4 * n) := Nat.mul_le_mul (Nat.mul_le_mul (by omega) hx) hx
  rw [← Nat.pow_add, ← Nat.pow_add, ← Nat.pow_add] at h1
  have h2 : 2 ^ (1 + 4 * n + 4 * n + 4 * n) < 2 ^ m := Nat.pow_lt_pow_right (by decide) (by omega)
  have h3 : 2 ^ m ≤ 10000 ^ m := Nat.pow_le_pow_left (by decide) _
  omega

/-- There is a bound on all numbers of the law: they have few words, few digits. -/
theorem lim_near : ∃ K : Nat, K ≤ 4194304 ∧ 1 ≤ K ∧ K ≤ 100000 ∧ (∀ z : Int, z.natAbs ≤ (Lim + 1) * Lim * Lim → Fit K z) ∧ (∀ z : Int, z.natAbs ≤ (Lim + 1) * Lim * Lim → z.natAbs < 10000 ^ 40000) ∧ ∃ k0, Lim < 2 ^ k0 ∧ k0 ≤ 100000 := by
  refine ⟨256, by decide, by decide, by decide, fun z hz => ?_, fun z hz => ?_, 4 * limN + 1, ?_, by decide⟩
  · exact Nat.lt_of_le_of_lt hz (near_pow limN 256 Lim lim_two (by decide))
  · exact Nat.lt_of_le_of_lt hz (near_dig limN 40000 Lim lim_two (by decide))
  · exact Nat.lt_of_le_of_lt lim_two (Nat.pow_lt_pow_right (by decide) (by omega))

/-- A fraction in a variable. -/
def QV (w : World) (g : Nat) (P Q : Int) : Prop := ∃ (s : Int) (a : Option Addr) (n c : Nat) (s' : Int) (a' : Option Addr) (n' c' : Nat), QBx w g s a n c s' a' n' c' ∧ IsFr w s a n c s' a' n' c' P Q
theorem QV.ext {w w' : World} {g : Nat} {P Q : Int} (h : QV w g P Q) (k : Ext w w') : QV w' g P Q := by
  obtain ⟨s, a, n, c, s', a', n', c', h1, h2⟩ := h
  exact ⟨s, a, n, c, s', a', n', c', h1.ext k, h2.ext k⟩

section
variable {w : World} {u v : Value}
theorem vbox2 {s : Int} {a : Option Addr} {n c : Nat} {z : Int} (h : IsInt w s a n c z) : VBox ((w.alloc (.cells #[.int .i64 s, .slice a n c] 24)).alloc (.cells #[u, v] 28)) w.heap.size z := (vbox_new h).ext (Ext.alloc _ _)
theorem zv2 {b : Bool} {a : Option Addr} {n c : Nat} {z : Int} (h : IsZ w b a n c z) : ZV ((w.alloc (.cells #[.bool b, .slice a n c] 33)).alloc (.cells #[u, v] 28)) w.heap.size z := (zv_new h).ext (Ext.alloc _ _)
end

set_option maxHeartbeats 16000000 in
set_option maxRecDepth 100000 in
theorem nears_walk (t1 t2 t3 : ByteArray) (W : World) (ht1 : t1.size ≤ 9223372036854775807) (ht2 : t2.size ≤ 9223372036854775807) (ht3 : t3.size ≤ 9223372036854775807) (htab : Ten W) (hbr : Bru W) :
    Calls Tryz.prog 4 #[.string t1, .string t2, .string t3] W fun e w' => e = .returned (.bool true) ∧ Ext W w' := by
  obtain ⟨K, hK, hK1, hKt, hfit, hdig, k0, hk0, hk1⟩ := lim_near
  have hL1 : 1 ≤ Lim := lim_pos
  have hLL : Lim ≤ (Lim + 1) * Lim * Lim := Nat.le_mul_of_pos_left _ (Nat.mul_pos (by omega) lim_pos)
  have lx := pz_lt (bs t1); have ly := pz_lt (bs t2); have lm := pz_lt (bs t3)
  have HP1 := hid (fun wx => Parse_any t1 wx ht1); have HZ1 := hid (fun wx => ZParse_any t1 wx ht1)
  obtain ⟨x, ex⟩ : ∃ x, pz (bs t1) = x := ⟨_, rfl⟩
  obtain ⟨p1, ep1⟩ : ∃ p : Int, ((pcode (bs t1) : Nat) : Int) = p := ⟨_, rfl⟩
  obtain ⟨p1', ep1'⟩ : ∃ p : Int, ((pat (bs t1) : Nat) : Int) = p := ⟨_, rfl⟩
  rw [ex, ep1, ep1'] at HP1 HZ1
  rw [ex] at lx
  clear ex ep1 ep1'
  have HP2 := hid (fun wx => Parse_any t2 wx ht2); have HZ2 := hid (fun wx => ZParse_any t2 wx ht2)
  obtain ⟨y, ey⟩ : ∃ y, pz (bs t2) = y := ⟨_, rfl⟩
  obtain ⟨p2, ep2⟩ : ∃ p : Int, ((pcode (bs t2) : Nat) : Int) = p := ⟨_, rfl⟩
  obtain ⟨p2', ep2'⟩ : ∃ p : Int, ((pat (bs t2) : Nat) : Int) = p := ⟨_, rfl⟩
  rw [ey, ep2, ep2'] at HP2 HZ2
  rw [ey] at ly
  clear ey ep2 ep2'
  have HP3 := hid (fun wx => Parse_any t3 wx ht3); have HZ3 := hid (fun wx => ZParse_any t3 wx ht3)
  obtain ⟨m, em⟩ : ∃ m, pz (bs t3) = m := ⟨_, rfl⟩
  obtain ⟨p3, ep3⟩ : ∃ p : Int, ((pcode (bs t3) : Nat) : Int) = p := ⟨_, rfl⟩
  obtain ⟨p3', ep3'⟩ : ∃ p : Int, ((pat (bs t3) : Nat) : Int) = p := ⟨_, rfl⟩
  rw [em, ep3, ep3'] at HP3 HZ3
  rw [em] at lm
  clear em ep3 ep3'
  have Fx := hid (hfit x (by omega)); have Fy := hid (hfit y (by omega)); have Fm := hid (hfit m (by omega))
  have Dx := hid (hdig x (by omega)); have Dy := hid (hdig y (by omega)); have Dm := hid (hdig m (by omega))
  have hPle := nfp_le x y
  have hQle : (nfq x y).natAbs ≤ Lim := nfq_lim hL1 (by omega)
  have hQpos := nfq_pos x y
  obtain ⟨P, eP⟩ : ∃ p, nfp x y = p := ⟨_, rfl⟩
  obtain ⟨Q, eQ⟩ : ∃ p, nfq x y = p := ⟨_, rfl⟩
  obtain ⟨oc, eoc⟩ : ∃ c, ovc y = c := ⟨_, rfl⟩
  rw [eP] at hPle; rw [eQ] at hQle hQpos
  have EP := hid eP; have EQ := hid eQ; have Eoc := hid eoc
  have FP := hid (hfit P (by omega)); have FQ := hid (hfit Q (by omega))
  have DP := hid (hdig P (by omega)); have DQ := hid (hdig Q (by omega))
  obtain ⟨l, hl⟩ := IsCf.exists Q.natAbs P Q (by omega) (Nat.le_refl _)
  obtain ⟨q0, rr, t0, rfl, _⟩ := hl.pos hQpos
  have Hcf := hid hl
  have HN := hid (fun s a n c s' a' n' c' sm am nm cm wx hx hm hb => Near_any s a n c s' a' n' c' sm am nm cm P Q m wx hx hm K hK hK1 Lim hL1 hQpos (by omega) hQle hfit (hfit m (by omega)) q0 t0 hl hb)
  have HF := hid (fun b1 a1 n1 c1 b2 a2 n2 c2 bm am nm cm wx h1 h2 hm => FNear_any b1 a1 n1 c1 b2 a2 n2 c2 bm am nm cm P Q m wx h1 h2 hm Lim hL1 hQpos (by omega) hQle hdig (hdig m (by omega)) k0 hk0 hk1 q0 t0 hl)
  have Hroom := cfRoom hl hQpos (show P.natAbs ≤ Lim by omega) hQle
  obtain ⟨kk, hkk⟩ := pick_take m [q0] t0 (by simp)
  have r1 := hfit _ (Nat.le_trans (Hroom.above kk) (Nat.le_mul_of_pos_right _ lim_pos)); have r2 := hfit _ (Nat.le_trans (Hroom.below kk) hLL)
  have hkk' : pick m [q0] t0 = (q0 :: t0).take (kk + 1) := hkk
  rw [← hkk'] at r1 r2
  obtain ⟨rp, erp⟩ : ∃ p, (cev (pick m [q0] t0)).1 = p := ⟨_, rfl⟩
  obtain ⟨rq, erq⟩ : ∃ p, (cev (pick m [q0] t0)).2 = p := ⟨_, rfl⟩
  rw [erp] at r1; rw [erq] at r2
  rw [erp, erq] at HN HF
  have Fr1 := hid r1; have Fr2 := hid r2
  have Htab := hid htab; have Hbr := hid hbr
  obtain ⟨tx, etx⟩ : ∃ t, ftx P Q = t := ⟨_, rfl⟩
  obtain ⟨tr, etr⟩ : ∃ t, ftx rp rq = t := ⟨_, rfl⟩
  have HQT := hid (fun s a n c s' a' n' c' wx hx ht => QText_any s a n c s' a' n' c' P Q wx hx K hKt hK1 FP.out FQ.out ht)
  have HFT := hid (fun b a n c b' a' n' c' wx h1 h2 hn1 hn2 => FText_any b a n c b' a' n' c' P Q wx h1 h2 hn1 hn2 K hKt hK1 FP.out FQ.out)
  have HQR := hid (fun s a n c s' a' n' c' wx hx ht => QText_any s a n c s' a' n' c' rp rq wx hx K hKt hK1 Fr1.out Fr2.out ht)
  have HFR := hid (fun b a n c b' a' n' c' wx h1 h2 hn1 hn2 => FText_any b a n c b' a' n' c' rp rq wx h1 h2 hn1 hn2 K hKt hK1 Fr1.out Fr2.out)
  rw [etx] at HQT HFT
  rw [etr] at HQR HFR
  clear lx ly lm hfit hdig hk0 hk1 hPle hQle hQpos eP eQ eoc hl Hcf Hroom hkk hkk' r1 r2 erp erq htab hbr hLL hL1 etx etr
  have hro : (oc == oc) = true := by simp
  go_enter Tryz.func4, Tryz.ntmps4
  go_wp2_with fail
  refine (HP1.out _).mono ?_
  rintro e w1 ⟨s1, a1, n1, c1, rfl, I, hx⟩
  have v1 := vbox2 (u := .int .i64 p1) (v := .int .i64 p1') I
  have hq := hx.trans (ext2_new w1 (.cells #[.int .i64 s1, .slice a1 n1 c1] 24) (.cells #[.int .i64 p1, .int .i64 p1'] 28))
  have HE1 := hid hq
  clear I hq hx HP1
  go_wp2_with fail
  generalize (w1.alloc (.cells #[.int .i64 s1, .slice a1 n1 c1] 24)).alloc (.cells #[.int .i64 p1, .int .i64 p1'] 28) = W1 at *
  generalize w1.heap.size = A at *
  refine (HP2.out _).mono ?_
  rintro e w2 ⟨s2, a2, n2, c2, rfl, I, hx⟩
  have v2 := vbox2 (u := .int .i64 p2) (v := .int .i64 p2') I
  have hq := hx.trans (ext2_new w2 (.cells #[.int .i64 s2, .slice a2 n2 c2] 24) (.cells #[.int .i64 p2, .int .i64 p2'] 28))
  have v1 := v1.ext hq
  have HE2 := hid (HE1.out.trans hq)
  clear I hq hx HE1 HP2
  go_wp2_with fail
  generalize (w2.alloc (.cells #[.int .i64 s2, .slice a2 n2 c2] 24)).alloc (.cells #[.int .i64 p2, .int .i64 p2'] 28) = W2 at *
  generalize w2.heap.size = B at *
  refine (HP3.out _).mono ?_
  rintro e w3 ⟨s3, a3, n3, c3, rfl, I, hx⟩
  have v3 := vbox2 (u := .int .i64 p3) (v := .int .i64 p3') I
  have hq := hx.trans (ext2_new w3 (.cells #[.int .i64 s3, .slice a3 n3 c3] 24) (.cells #[.int .i64 p3, .int .i64 p3'] 28))
  have v1 := v1.ext hq
  have v2 := v2.ext hq
  have HE3 := hid (HE2.out.trans hq)
  clear I hq hx HE2 HP3
  go_wp2_with fail
  generalize (w3.alloc (.cells #[.int .i64 s3, .slice a3 n3 c3] 24)).alloc (.cells #[.int .i64 p3, .int .i64 p3'] 28) = W3 at *
  generalize w3.heap.size = C at *
  refine (HZ1.out _).mono ?_
  rintro e w4 ⟨s4, a4, n4, c4, rfl, I, ln4, hx⟩
  have v4 := zv2 (u := .int .i64 p1) (v := .int .i64 p1') I
  have hq := hx.trans (ext2_new w4 (.cells #[.bool s4, .slice a4 n4 c4] 33) (.cells #[.int .i64 p1, .int .i64 p1'] 28))
  have v1 := v1.ext hq
  have v2 := v2.ext hq
  have v3 := v3.ext hq
  have HE4 := hid (HE3.out.trans hq)
  clear I hq hx HE3 ln4 HZ1
  go_wp2_with fail
  generalize (w4.alloc (.cells #[.bool s4, .slice a4 n4 c4] 33)).alloc (.cells #[.int .i64 p1, .int .i64 p1'] 28) = W4 at *
  generalize w4.heap.size = D at *
  refine (HZ2.out _).mono ?_
  rintro e w5 ⟨s5, a5, n5, c5, rfl, I, ln5, hx⟩
  have v5 := zv2 (u := .int .i64 p2) (v := .int .i64 p2') I
  have hq := hx.trans (ext2_new w5 (.cells #[.bool s5, .slice a5 n5 c5] 33) (.cells #[.int .i64 p2, .int .i64 p2'] 28))
  have v1 := v1.ext hq
  have v2 := v2.ext hq
  have v3 := v3.ext hq
  have v4 := v4.ext hq
  have HE5 := hid (HE4.out.trans hq)
  clear I hq hx HE4 ln5 HZ2
  go_wp2_with fail
  generalize (w5.alloc (.cells #[.bool s5, .slice a5 n5 c5] 33)).alloc (.cells #[.int .i64 p2, .int .i64 p2'] 28) = W5 at *
  generalize w5.heap.size = E at *
  refine (HZ3.out _).mono ?_
  rintro e w6 ⟨s6, a6, n6, c6, rfl, I, ln6, hx⟩
  have v6 := zv2 (u := .int .i64 p3) (v := .int .i64 p3') I
  have hq := hx.trans (ext2_new w6 (.cells #[.bool s6, .slice a6 n6 c6] 33) (.cells #[.int .i64 p3, .int .i64 p3'] 28))
  have v1 := v1.ext hq
  have v2 := v2.ext hq
  have v3 := v3.ext hq
  have v4 := v4.ext hq
  have v5 := v5.ext hq
  have HE6 := hid (HE5.out.trans hq)
  obtain ⟨g1, g2, g3, g4, bx, Ix⟩ := v1
  obtain ⟨h1, h2, h3, h4, by', Iy⟩ := v2
  have m0 := bx.c0; have m1 := bx.c1; have m2 := by'.c0; have m3 := by'.c1
  clear bx by'
  clear I hq hx HE5 ln6 HZ3
  go_wp2_with fail
  generalize (w6.alloc (.cells #[.bool s6, .slice a6 n6 c6] 33)).alloc (.cells #[.int .i64 p3, .int .i64 p3'] 28) = W6 at *
  generalize w6.heap.size = F at *
  clear m0 m1 m2 m3
  refine (Over_fr g1 h1 g2 h2 g3 g4 h3 h4 x y W6 Ix Iy K hK hK1 Fx.out Fy.out (bru_ext Hbr.out HE6.out)).mono ?_
  rw [EP.out, EQ.out, Eoc.out]
  rintro e w7 ⟨s7, a7, n7, c7, s7x, a7x, n7x, c7x, rfl, I7, hx⟩
  have hq := hx.trans (ext2_new w7 (.cells #[.int .i64 s7, .slice a7 n7 c7, .int .i64 s7x, .slice a7x n7x c7x] 26) (.cells #[.int .i64 oc, .int .i64 0] 28))
  have b7 := qbx2_new w7 s7 a7 n7 c7 s7x a7x n7x c7x (.int .i64 oc) (.int .i64 0)
  have f7 := fbq_new w7 (.cells #[.int .i64 s7, .slice a7 n7 c7, .int .i64 s7x, .slice a7x n7x c7x] 26) oc 0
  have I7 := I7.ext (ext2_new w7 (.cells #[.int .i64 s7, .slice a7 n7 c7, .int .i64 s7x, .slice a7x n7x c7x] 26) (.cells #[.int .i64 oc, .int .i64 0] 28))
  have v3 := v3.ext hq; have v4 := v4.ext hq; have v5 := v5.ext hq; have v6 := v6.ext hq
  have HE7 := hid (HE6.out.trans hq)
  obtain ⟨g1, g2, g3, g4, bx, Jx⟩ := v4
  obtain ⟨h1, h2, h3, h4, by', Jy⟩ := v5
  have m0 := bx.c0; have m1 := bx.c1; have m2 := by'.c0; have m3 := by'.c1
  have dx := Jx.len_of Dx.out; have dy := Jy.len_of Dy.out
  clear Ix Iy bx by' hq hx HE6
  go_wp2_with fail
  generalize (w7.alloc (.cells #[.int .i64 s7, .slice a7 n7 c7, .int .i64 s7x, .slice a7x n7x c7x] 26)).alloc (.cells #[.int .i64 oc, .int .i64 0] 28) = W7 at *
  generalize w7.heap.size = G at *
  clear m0 m1 m2 m3
  refine (FOver_any g1 h1 g2 h2 g3 g4 h3 h4 x y W7 Jx Jy (by omega) (by omega)).mono ?_
  rw [EP.out, EQ.out, Eoc.out]
  rintro e w8 ⟨s8, a8, n8, c8, s8x, a8x, n8x, c8x, rfl, I8, I8x, _, _, hx⟩
  have hq := hx.trans (ext2_new w8 (.cells #[.bool s8, .slice a8 n8 c8, .bool s8x, .slice a8x n8x c8x] 35) (.cells #[.int .i64 oc, .int .i64 0] 28))
  have b8 := fzbx2_new w8 s8 a8 n8 c8 s8x a8x n8x c8x (.int .i64 oc) (.int .i64 0)
  have f8 := fbq_new w8 (.cells #[.bool s8, .slice a8 n8 c8, .bool s8x, .slice a8x n8x c8x] 35) oc 0
  have I8 := I8.ext (ext2_new w8 (.cells #[.bool s8, .slice a8 n8 c8, .bool s8x, .slice a8x n8x c8x] 35) (.cells #[.int .i64 oc, .int .i64 0] 28))
  have I8x := I8x.ext (ext2_new w8 (.cells #[.bool s8, .slice a8 n8 c8, .bool s8x, .slice a8x n8x c8x] 35) (.cells #[.int .i64 oc, .int .i64 0] 28))
  have d8 := I8.len_of DP.out; have d8x := I8x.len_of DQ.out
  have v3 := v3.ext hq; have v6 := v6.ext hq; have b7 := b7.ext hq; have f7 := f7.ext hq; have I7 := I7.ext hq
  have HE8 := hid (HE7.out.trans hq)
  obtain ⟨g1, g2, g3, g4, bm, Im⟩ := v3
  obtain ⟨h1, h2, h3, h4, bz, Jm⟩ := v6
  have dm := Jm.len_of Dm.out
  clear hq hx HE7 Jx Jy dx dy
  go_wp2_with fail
  generalize (w8.alloc (.cells #[.bool s8, .slice a8 n8 c8, .bool s8x, .slice a8x n8x c8x] 35)).alloc (.cells #[.int .i64 oc, .int .i64 0] 28) = W8 at *
  generalize w8.heap.size = T at *
  have m0 := b7.c0
  have m1 := b7.c1
  have m2 := b7.c2
  have m3 := b7.c3
  have m4 := f7.c0
  have m5 := f7.c1
  have m6 := b8.c0
  have m7 := b8.c1
  have m8 := b8.c2
  have m9 := b8.c3
  have m10 := f8.c0
  have m11 := f8.c1
  have lG := b7.lt; have lF := f7.lt; have lT := b8.lt; have lH := f8.lt
  have h0d : Ext W8 W8.drew := Below.drew (Ext.refl _)
  go_region_held3 (fun w' => w'.cell? ⟨G, 0, none⟩ = some (.int .i64 s7) ∧ w'.cell? ⟨G, 1, none⟩ = some (.slice a7 n7 c7) ∧ w'.cell? ⟨G, 2, none⟩ = some (.int .i64 s7x) ∧ w'.cell? ⟨G, 3, none⟩ = some (.slice a7x n7x c7x) ∧ w'.cell? ⟨G + 1, 0, none⟩ = some (.int .i64 oc) ∧ w'.cell? ⟨G + 1, 1, none⟩ = some (.int .i64 0) ∧ w'.cell? ⟨T, 0, none⟩ = some (.bool s8) ∧ w'.cell? ⟨T, 1, none⟩ = some (.slice a8 n8 c8) ∧ w'.cell? ⟨T, 2, none⟩ = some (.bool s8x) ∧ w'.cell? ⟨T, 3, none⟩ = some (.slice a8x n8x c8x) ∧ w'.cell? ⟨T + 1, 0, none⟩ = some (.int .i64 oc) ∧ w'.cell? ⟨T + 1, 1, none⟩ = some (.int .i64 0))
    (exact ⟨cellKeep (W := W8) (by assumption) lG m0, cellKeep (W := W8) (by assumption) lG m1, cellKeep (W := W8) (by assumption) lG m2, cellKeep (W := W8) (by assumption) lG m3, cellKeep (W := W8) (by assumption) lF m4, cellKeep (W := W8) (by assumption) lF m5, cellKeep (W := W8) (by assumption) lT m6, cellKeep (W := W8) (by assumption) lT m7, cellKeep (W := W8) (by assumption) lT m8, cellKeep (W := W8) (by assumption) lT m9, cellKeep (W := W8) (by assumption) lH m10, cellKeep (W := W8) (by assumption) lH m11⟩)
    (first
      | (have _ := qv1; go_at_call 9; refine (HFT.out s8 a8 n8 c8 s8x a8x n8x c8x _ (I8.ext hv1) (I8x.ext hv1) (by omega) (by omega)).mono ?_; rintro e u2 ⟨rfl, qv2⟩; have hv2 : Ext W8 u2 := hv1.trans qv2)
      | (have _ := qv0; go_at_call 8; refine (HQT.out s7 a7 n7 c7 s7x a7x n7x c7x _ (I7.ext hv0) (tab_ext Htab.out (HE8.out.trans hv0))).mono ?_; rintro e u1 ⟨rfl, qv1⟩; have hv1 : Ext W8 u1 := hv0.trans qv1)
      | (go_at_call 7; refine (wholeBegun_any _ (tab_ext Htab.out (HE8.out.trans (by assumption)))).mono ?_; rintro e u0 ⟨rfl, qv0⟩; have hv0 : Ext W8 u0 := Ext.trans (by assumption) qv0))
  have b7 := b7.ext hv2; have b8 := b8.ext hv2; have bm := bm.ext hv2; have bz := bz.ext hv2
  have I7 := I7.ext hv2; have I8 := I8.ext hv2; have I8x := I8x.ext hv2; have Im := Im.ext hv2; have Jm := Jm.ext hv2
  have HE9 := hid (HE8.out.trans hv2)
  clear m0 m1 m2 m3 m4 m5 m6 m7 m8 m9 m10 m11 lG lF lT lH h0d f7 f8 hv0 qv0 hv1 qv1 hv2 qv2 HE8 HQT HFT
  go_wp2_with fail
  have m0 := b7.c0
  have m1 := b7.c1
  have m2 := b7.c2
  have m3 := b7.c3
  have m4 := bm.c0
  have m5 := bm.c1
  have m6 := b8.c0
  have m7 := b8.c1
  have m8 := b8.c2
  have m9 := b8.c3
  have m10 := bz.c0
  have m11 := bz.c1
  have lG := b7.lt; have lC := bm.lt; have lT := b8.lt; have lF := bz.lt
  have h0d : Ext u2 u2.drew := Below.drew (Ext.refl _)
  go_region_held3 (fun w' => w'.cell? ⟨G, 0, none⟩ = some (.int .i64 s7) ∧ w'.cell? ⟨G, 1, none⟩ = some (.slice a7 n7 c7) ∧ w'.cell? ⟨G, 2, none⟩ = some (.int .i64 s7x) ∧ w'.cell? ⟨G, 3, none⟩ = some (.slice a7x n7x c7x) ∧ w'.cell? ⟨C, 0, none⟩ = some (.int .i64 g1) ∧ w'.cell? ⟨C, 1, none⟩ = some (.slice g2 g3 g4) ∧ w'.cell? ⟨T, 0, none⟩ = some (.bool s8) ∧ w'.cell? ⟨T, 1, none⟩ = some (.slice a8 n8 c8) ∧ w'.cell? ⟨T, 2, none⟩ = some (.bool s8x) ∧ w'.cell? ⟨T, 3, none⟩ = some (.slice a8x n8x c8x) ∧ w'.cell? ⟨F, 0, none⟩ = some (.bool h1) ∧ w'.cell? ⟨F, 1, none⟩ = some (.slice h2 h3 h4))
    (exact ⟨cellKeep (W := u2) (by assumption) lG m0, cellKeep (W := u2) (by assumption) lG m1, cellKeep (W := u2) (by assumption) lG m2, cellKeep (W := u2) (by assumption) lG m3, cellKeep (W := u2) (by assumption) lC m4, cellKeep (W := u2) (by assumption) lC m5, cellKeep (W := u2) (by assumption) lT m6, cellKeep (W := u2) (by assumption) lT m7, cellKeep (W := u2) (by assumption) lT m8, cellKeep (W := u2) (by assumption) lT m9, cellKeep (W := u2) (by assumption) lF m10, cellKeep (W := u2) (by assumption) lF m11⟩)
    (first
      | (have _ := qr2; go_at_call 9; refine (HFR.out t1' t2' t3' t4' t5' t6' t7' t8' _ K1 K2 (by omega) (by omega)).mono ?_; rintro e r3 ⟨rfl, qr3⟩; have hr3 : Ext u2 r3 := hr2.trans qr3)
      | (have _ := qr1; go_at_call 28; refine (HF.out s8 a8 n8 c8 s8x a8x n8x c8x h1 h2 h3 h4 _ (I8.ext hr1) (I8x.ext hr1) (Jm.ext hr1)).mono ?_; rintro e r2 ⟨t1', t2', t3', t4', t5', t6', t7', t8', rfl, K1, K2, lk1, lk2, qr2⟩; have hr2 : Ext u2 r2 := hr1.trans qr2)
      | (have _ := qr0; go_at_call 8; refine (HQR.out k1' k2' k3' k4' k5' k6' k7' k8' _ K0 (tab_ext Htab.out (HE9.out.trans hr0))).mono ?_; rintro e r1 ⟨rfl, qr1⟩; have hr1 : Ext u2 r1 := hr0.trans qr1)
      | (go_at_call 27; refine (HN.out s7 a7 n7 c7 s7x a7x n7x c7x g1 g2 g3 g4 _ (I7.ext (by assumption)) (Im.ext (by assumption)) (bru_ext Hbr.out (HE9.out.trans (by assumption)))).mono ?_; rintro e r0 ⟨k1', k2', k3', k4', k5', k6', k7', k8', rfl, K0, qr0⟩; have hr0 : Ext u2 r0 := Ext.trans (by assumption) qr0))
  go_wp2_with fail
  go_ret
  exact ⟨rfl, HE9.out.trans hr3⟩

end Go.Proofs.YtdiojbgbeeojkaaGreatDoor
