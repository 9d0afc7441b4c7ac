/-
  Near: the walk.
-/
import Derived.Test.YtdiojbgbeeojkaaGreatDoorMNv

namespace Go.Proofs.YtdiojbgbeeojkaaGreatDoor
open Go.RowKit

theorem res_one (w : World) : Res (w.alloc (.cells #[.int .i64 0, .slice none 0 0] 24)).drew w.heap.size := res_newd w
theorem res_fst (w : World) : Res ((w.alloc (.cells #[.int .i64 0, .slice none 0 0] 24)).alloc (.cells #[.int .i64 0, .slice none 0 0] 24)).drew w.heap.size := ((res_new w).ext (Ext.alloc _ _)).ext (Below.drew (Ext.refl _))
theorem res_two (w : World) : Res ((w.alloc (.cells #[.int .i64 0, .slice none 0 0] 24)).alloc (.cells #[.int .i64 0, .slice none 0 0] 24)).drew (w.heap.size + 1) := by
  have h := res_newd (w.alloc (.cells #[.int .i64 0, .slice none 0 0] 24))
  rw [show (w.alloc (.cells #[.int .i64 0, .slice none 0 0] 24)).heap.size = w.heap.size + 1 from by simp] at h
  exact h


section
variable {W w : World} {s : Int} {a : Option Addr} {n c : Nat} {z1 : Int} {s' : Int} {a' : Option Addr} {n' c' : Nat} {z2 : Int} {g g' : Nat}
theorem var2_new (he : Ext W w) (I1 : IsInt w s a n c z1) (I2 : IsInt w s' a' n' c' z2) :
    VBox ((w.alloc (.cells #[.int .i64 s, .slice a n c] 24)).alloc (.cells #[.int .i64 s', .slice a' n' c'] 24)) w.heap.size z1 ∧
    VBox ((w.alloc (.cells #[.int .i64 s, .slice a n c] 24)).alloc (.cells #[.int .i64 s', .slice a' n' c'] 24)) (w.heap.size + 1) z2 ∧
    Ext W ((w.alloc (.cells #[.int .i64 s, .slice a n c] 24)).alloc (.cells #[.int .i64 s', .slice a' n' c'] 24)) := by
  have v := vbox_new (I2.ext (Ext.alloc w (.cells #[.int .i64 s, .slice a n c] 24)))
  rw [show (w.alloc (.cells #[.int .i64 s, .slice a n c] 24)).heap.size = w.heap.size + 1 from by simp] at v
  exact ⟨(vbox_new I1).ext (Ext.alloc _ _), v, (he.then _).then _⟩
theorem var2_mid (he : Ext W w) (hR : Res w g) (hg : W.heap.size ≤ g) (I1 : IsInt w s a n c z1) (I2 : IsInt w s' a' n' c' z2) :
    VBox (((w.setCell ⟨g, 0, none⟩ (.int .i64 s)).setCell ⟨g, 1, none⟩ (.slice a n c)).alloc (.cells #[.int .i64 s', .slice a' n' c'] 24)) g z1 ∧
    VBox (((w.setCell ⟨g, 0, none⟩ (.int .i64 s)).setCell ⟨g, 1, none⟩ (.slice a n c)).alloc (.cells #[.int .i64 s', .slice a' n' c'] 24)) w.heap.size z2 ∧
    Ext W (((w.setCell ⟨g, 0, none⟩ (.int .i64 s)).setCell ⟨g, 1, none⟩ (.slice a n c)).alloc (.cells #[.int .i64 s', .slice a' n' c'] 24)) := by
  have v := vbox_new (I2.keep64 (hR.box.keep s a n c))
  rw [show ((w.setCell ⟨g, 0, none⟩ (.int .i64 s)).setCell ⟨g, 1, none⟩ (.slice a n c)).heap.size = w.heap.size from by simp] at v
  exact ⟨(VBox.own hR.box I1).ext (Ext.alloc _ _), v, (he.put2 hg _ _).then _⟩
theorem var2_old (he : Ext W w) (hR : Res w g) (hR' : Res w g') (hg : W.heap.size ≤ g) (hg' : W.heap.size ≤ g') (hne : g ≠ g') (I1 : IsInt w s a n c z1) (I2 : IsInt w s' a' n' c' z2) :
    VBox ((((w.setCell ⟨g, 0, none⟩ (.int .i64 s)).setCell ⟨g, 1, none⟩ (.slice a n c)).setCell ⟨g', 0, none⟩ (.int .i64 s')).setCell ⟨g', 1, none⟩ (.slice a' n' c')) g z1 ∧
    VBox ((((w.setCell ⟨g, 0, none⟩ (.int .i64 s)).setCell ⟨g, 1, none⟩ (.slice a n c)).setCell ⟨g', 0, none⟩ (.int .i64 s')).setCell ⟨g', 1, none⟩ (.slice a' n' c')) g' z2 ∧
    Ext W ((((w.setCell ⟨g, 0, none⟩ (.int .i64 s)).setCell ⟨g, 1, none⟩ (.slice a n c)).setCell ⟨g', 0, none⟩ (.int .i64 s')).setCell ⟨g', 1, none⟩ (.slice a' n' c')) := by
  have b' := (hR'.box.put (h := g) (o := 0) (Ne.symm hne) (.int .i64 s)).put (h := g) (o := 1) (Ne.symm hne) (.slice a n c)
  exact ⟨(VBox.own hR.box I1).put b' hne s' a' n' c', VBox.own b' (I2.keep64 (hR.box.keep s a n c)), (he.put2 hg _ _).put2 hg' _ _⟩
end

set_option maxHeartbeats 4000000 in
set_option maxRecDepth 100000 in
theorem Near_any (s : Int) (a : Option Addr) (n c : Nat) (s' : Int) (a' : Option Addr) (n' c' : Nat) (sm : Int) (am : Option Addr) (nm cm : Nat) (P Q M : Int) (w : World) (hx : IsFr w s a n c s' a' n' c' P Q) (hm : IsInt w sm am nm cm M) (K : Nat) (hK : K ≤ 4194304) (hK1 : 1 ≤ K) (X : Nat) (hX : 1 ≤ X) (hQ : 0 < Q) (hPX : P.natAbs ≤ X) (hQX : Q.natAbs ≤ X) (hfit : ∀ z : Int, z.natAbs ≤ (X + 1) * X * X → Fit K z) (hfM : Fit K M) (q0 : Int) (t0 : List Int) (hcf : IsCf P Q (q0 :: t0)) (hbr : Bru w) :
    Calls Tryz.prog 27 #[.agg #[.int .i64 s, .slice a n c, .int .i64 s', .slice a' n' c'], .agg #[.int .i64 sm, .slice am nm cm]] w (QRet w (cev (pick M [q0] t0)).1 (cev (pick M [q0] t0)).2) := by
  have Hroom := hid (cfRoom hcf hQ hPX hQX)
  have Hfit := hid hfit; have HfM := hid hfM; have Hbr := hid hbr; have Hcf := hid hcf
  have hXX : X ≤ (X + 1) * X * X := Nat.le_mul_of_pos_left _ (Nat.mul_pos (by omega) hX)
  have HfP := hid (hfit P (by omega)); have HfQ := hid (hfit Q (by omega))
  have HQ0 := hid (show Q ≠ 0 by omega)
  obtain ⟨res, hres⟩ : ∃ res, pick M [q0] t0 = res := ⟨_, rfl⟩
  rw [hres]
  have Hres := hid hres
  obtain ⟨rp, hrp⟩ : ∃ rp, (cev res).1 = rp := ⟨_, rfl⟩
  obtain ⟨rq, hrq⟩ : ∃ rq, (cev res).2 = rq := ⟨_, rfl⟩
  rw [hrp, hrq]
  have Hrp := hid hrp; have Hrq := hid hrq
  have H1 := hid hx
  have Hq0 : Hid (0 < rq) := by
    show 0 < rq
    obtain ⟨k, hk⟩ := pick_take M [q0] t0 (by simp)
    rw [← hrq, ← hres, hk]
    exact Hroom.out.pos k
  have HFq : Hid (Fit K rq) := by
    obtain ⟨k, hk⟩ := pick_take M [q0] t0 (by simp)
    have := Hroom.out.below k
    exact hfit _ (by rw [← hrq, ← hres, hk]; exact Nat.le_trans this hXX)
  have HFp : Hid (Fit K rp) := by
    obtain ⟨k, hk⟩ := pick_take M [q0] t0 (by simp)
    have := Hroom.out.above k
    exact hfit _ (by rw [← hrp, ← hres, hk]; exact Nat.le_trans this (Nat.le_mul_of_pos_right _ hX))
  have Hco : Hid (Nat.gcd rp.natAbs rq.natAbs = 1) := by
    show _ = _
    rw [← hrp, ← hrq]
    exact cev_co res
  clear hfit hfM hbr hcf hXX hres hrp hrq hx
  have hE : Ext w (((w.alloc (.cells #[.int .i64 s, .slice a n c, .int .i64 s', .slice a' n' c'] 26)).alloc (.cells #[.int .i64 sm, .slice am nm cm] 24)).alloc (.cells #[.int .i64 0, .slice none 0 0, .int .i64 0, .slice none 0 0] 26)) := ((Ext.alloc w _).trans (Ext.alloc _ _)).trans (Ext.alloc _ _)
  have vM := (vbox_new (hm.ext (Ext.alloc w (.cells #[.int .i64 s, .slice a n c, .int .i64 s', .slice a' n' c'] 26)))).ext (Ext.alloc _ (.cells #[.int .i64 0, .slice none 0 0, .int .i64 0, .slice none 0 0] 26))
  rw [show (w.alloc (.cells #[.int .i64 s, .slice a n c, .int .i64 s', .slice a' n' c'] 26)).heap.size = w.heap.size + 1 from by simp] at vM
  have qR : QRes (((w.alloc (.cells #[.int .i64 s, .slice a n c, .int .i64 s', .slice a' n' c'] 26)).alloc (.cells #[.int .i64 sm, .slice am nm cm] 24)).alloc (.cells #[.int .i64 0, .slice none 0 0, .int .i64 0, .slice none 0 0] 26)) (w.heap.size + 2) := by
    have := heap_alloc_new ((w.alloc (.cells #[.int .i64 s, .slice a n c, .int .i64 s', .slice a' n' c'] 26)).alloc (.cells #[.int .i64 sm, .slice am nm cm] 24)) (.cells #[.int .i64 0, .slice none 0 0, .int .i64 0, .slice none 0 0] 26)
    exact ⟨by simpa using this⟩
  have HvM := hid vM; have HqR := hid qR; have HE := hid hE
  clear vM qR hE hm
  go_enter Tryz.func27, Tryz.ntmps27
  go_wp2_with fail
  generalize ((w.alloc (.cells #[.int .i64 s, .slice a n c, .int .i64 s', .slice a' n' c'] 26)).alloc (.cells #[.int .i64 sm, .slice am nm cm] 24)).alloc (.cells #[.int .i64 0, .slice none 0 0, .int .i64 0, .slice none 0 0] 26) = W0 at *
  refine (Parts_fr s s' a a' n c n' c' P Q W0 (H1.out.ext HE.out)).mono ?_
  rintro e u1 ⟨s3, a3, n3, c3, s4, a4, n4, c4, rfl, I3, I4, hx1⟩
  have hq1 := (Ext.alloc u1 (.cells #[.int .i64 s3, .slice a3 n3 c3] 24)).trans (Ext.alloc _ (.cells #[.int .i64 s4, .slice a4 n4 c4] 24))
  have v3 := (vbox_new I3).ext (Ext.alloc _ (.cells #[.int .i64 s4, .slice a4 n4 c4] 24))
  have v4 := vbox_new (I4.ext (Ext.alloc u1 (.cells #[.int .i64 s3, .slice a3 n3 c3] 24)))
  rw [show (u1.alloc (.cells #[.int .i64 s3, .slice a3 n3 c3] 24)).heap.size = u1.heap.size + 1 from by simp] at v4
  have Hv3 := hid v3; have Hv4 := hid v4; have HE1 := hid (hx1.trans hq1); have J3 := hid (I3.ext hq1); have J4 := hid (I4.ext hq1)
  have L1 : Hid (w.heap.size + 2 < u1.heap.size) := (HqR.out.ext hx1).lt
  clear v3 v4 I3 I4 hq1 hx1
  go_wp2_with fail
  generalize (u1.alloc (.cells #[.int .i64 s3, .slice a3 n3 c3] 24)).alloc (.cells #[.int .i64 s4, .slice a4 n4 c4] 24) = W1 at *
  generalize u1.heap.size = A at *
  refine (Div_any s3 s4 a3 a4 n3 c3 n4 c4 P Q W1 J3.out J4.out K hK hK1 HfP.out HfQ.out HQ0.out).mono ?_
  rintro e u2 ⟨s5, a5, n5, c5, s6, a6, n6, c6, qq, rr, rfl, I5, I6, hd, hx2⟩
  have hq2 := ((Ext.alloc u2 (.cells #[.int .i64 s5, .slice a5 n5 c5] 24)).trans (Ext.alloc _ (.cells #[.int .i64 s6, .slice a6 n6 c6] 24))).trans (Ext.alloc _ (.cells #[.int .i64 0, .int .i64 0] 28))
  have v5 := ((vbox_new I5).ext (Ext.alloc _ (.cells #[.int .i64 s6, .slice a6 n6 c6] 24))).ext (Ext.alloc _ (.cells #[.int .i64 0, .int .i64 0] 28))
  have v6 := (vbox_new (I6.ext (Ext.alloc u2 (.cells #[.int .i64 s5, .slice a5 n5 c5] 24)))).ext (Ext.alloc _ (.cells #[.int .i64 0, .int .i64 0] 28))
  rw [show (u2.alloc (.cells #[.int .i64 s5, .slice a5 n5 c5] 24)).heap.size = u2.heap.size + 1 from by simp] at v6
  have Hv5 := hid v5; have Hv6 := hid v6; have HE2 := hid (hx2.trans hq2)
  have L2 : Hid (A + 1 < u2.heap.size) := (Hv4.out.ext hx2).lt
  have LF : Hid (u2.heap.size + 2 < (((u2.alloc (.cells #[.int .i64 s5, .slice a5 n5 c5] 24)).alloc (.cells #[.int .i64 s6, .slice a6 n6 c6] 24)).alloc (.cells #[.int .i64 0, .int .i64 0] 28)).heap.size) := by
    show _ < _
    simp
  have Hd := hid hd
  clear v5 v6 I5 I6 hq2 hx2 hd
  go_wp2_with fail
  generalize ((u2.alloc (.cells #[.int .i64 s5, .slice a5 n5 c5] 24)).alloc (.cells #[.int .i64 s6, .slice a6 n6 c6] 24)).alloc (.cells #[.int .i64 0, .int .i64 0] 28) = W2 at *
  generalize u2.heap.size = B at *
  refine (Of_from 1 (by omega) (by omega) W2 (Ext.refl W2)).mono ?_
  rintro e u3 ⟨rfl, _, hx3⟩
  have hq3 := (Ext.alloc u3 (.cells #[.int .i64 1, .slice none 0 0] 24)).trans (Ext.alloc _ (.cells #[.int .i64 0, .slice none 0 0] 24))
  have v7 := (vbox_new (IsInt.small u3 1 (by omega) (by omega))).ext (Ext.alloc _ (.cells #[.int .i64 0, .slice none 0 0] 24))
  have v8 := vbox_new (IsInt.small (u3.alloc (.cells #[.int .i64 1, .slice none 0 0] 24)) 0 (by omega) (by omega))
  rw [show (u3.alloc (.cells #[.int .i64 1, .slice none 0 0] 24)).heap.size = u3.heap.size + 1 from by simp] at v8
  have Hv7 := hid v7; have Hv8 := hid v8; have HE3 := hid (hx3.trans hq3)
  have L3 : Hid (B + 2 < u3.heap.size) := Nat.lt_of_lt_of_le LF.out hx3.size
  clear v7 v8 hq3 hx3
  go_wp2_with fail
  generalize (u3.alloc (.cells #[.int .i64 1, .slice none 0 0] 24)).alloc (.cells #[.int .i64 0, .slice none 0 0] 24) = W3 at *
  have L4 : Hid (u3.heap.size + 1 < W3.heap.size) := Hv8.out.lt
  generalize u3.heap.size = C at *
  have vQ := Hv5.out.ext HE3.out
  obtain ⟨s9, a9, n9, c9, b9, I9⟩ := vQ
  have HI9 := hid I9
  have m0 := b9.c0; have m1 := b9.c1
  have lB := b9.lt
  have Ho := hid (Of_from (w := W3) 1 (by omega) (by omega))
  clear b9 I9
  go_cut [12, 13] from 29 to 30 (fun s12 s13 wx => ∃ P' E' : Nat, s12 = .pointer (some ⟨P', 0, none⟩) ∧ s13 = .pointer (some ⟨E', 0, none⟩) ∧ VBox wx P' qq ∧ VBox wx E' 1 ∧ W3.heap.size ≤ P' ∧ W3.heap.size ≤ E' ∧ P' ≠ E' ∧ Ext W3 wx)
  case first =>
    have hE00 : Ext W3 W3 := Ext.refl _
    have hE0d : Ext W3 W3.drew := Below.drew (Ext.refl _)
    go_region_held3 (fun w' => w'.cell? ⟨B, 0, none⟩ = some (.int .i64 s9) ∧ w'.cell? ⟨B, 1, none⟩ = some (.slice a9 n9 c9))
      (refine ⟨cellKeep (W := W3) ?_ lB m0, cellKeep (W := W3) ?_ lB m1⟩ <;> (repeat (first | assumption | refine Ext.put ?_ (by omega) _ | refine Ext.then ?_ _ | refine Below.drew ?_)))
      (first | (go_at_call 35; refine (Ho.out _ (by repeat (first | assumption | refine Ext.then ?_ _ | refine Below.drew ?_))).mono ?_; rintro e w4 ⟨rfl, he4, hx4⟩; (try (have hR1 : Res w4 W3.heap.size := Res.ext (res_one W3) hx4; have k0 := hR1.c0; have k1 := hR1.c1; have g0 := hR1.f0; have g1 := hR1.f1; have z4 := hR1.lt; have z5 : ¬ w4.heap.size = W3.heap.size := (by omega); have z7 : ¬ W3.heap.size = w4.heap.size := (by omega); have kA := fun o => (hR1.ext (Ext.alloc w4 o)).c0; have kB := fun o => (hR1.ext (Ext.alloc w4 o)).c1; have kC := fun o => (hR1.ext (Ext.alloc w4 o)).f0; have kD := fun o => (hR1.ext (Ext.alloc w4 o)).f1)); (try (have hR1 : Res w4 W3.heap.size := Res.ext (res_fst W3) hx4; have k0 := hR1.c0; have k1 := hR1.c1; have g0 := hR1.f0; have g1 := hR1.f1; have z4 := hR1.lt; have z5 : ¬ w4.heap.size = W3.heap.size := (by omega); have z7 : ¬ W3.heap.size = w4.heap.size := (by omega); have kA := fun o => (hR1.ext (Ext.alloc w4 o)).c0; have kB := fun o => (hR1.ext (Ext.alloc w4 o)).c1; have kC := fun o => (hR1.ext (Ext.alloc w4 o)).f0; have kD := fun o => (hR1.ext (Ext.alloc w4 o)).f1)); (try (have hR2 := Res.ext (res_two W3) hx4; have k2 := hR2.c0; have k3 := hR2.c1; have g2 := hR2.f0; have g3 := hR2.f1; have z6 := hR2.lt))))
    all_goals
      go_wp2_with fail
      go_meet
      have J1 := HI9.out.ext he4
      have J2 : IsInt w4 1 none 0 0 1 := IsInt.small w4 1 (by omega) (by omega)
      have hz := he4.size
      first
      | (have h := var2_new he4 J1 J2; exact ⟨_, _, rfl, rfl, h.1, h.2.1, hz, by omega, by omega, h.2.2⟩)
      | (have h := var2_new he4 J2 J1; exact ⟨_, _, rfl, rfl, h.2.1, h.1, by omega, hz, by omega, h.2.2⟩)
      | (have h := var2_mid he4 hR1 (Nat.le_refl _) J1 J2; exact ⟨_, _, rfl, rfl, h.1, h.2.1, Nat.le_refl _, hz, by omega, h.2.2⟩)
      | (have h := var2_mid he4 hR1 (Nat.le_refl _) J2 J1; exact ⟨_, _, rfl, rfl, h.2.1, h.1, hz, Nat.le_refl _, by omega, h.2.2⟩)
      | (have h := var2_old he4 hR1 hR2 (Nat.le_refl _) (Nat.le_succ _) (by omega) J1 J2; exact ⟨_, _, rfl, rfl, h.1, h.2.1, Nat.le_refl _, Nat.le_succ _, by omega, h.2.2⟩)
      | (have h := var2_old he4 hR2 hR1 (Nat.le_succ _) (Nat.le_refl _) (by omega) J1 J2; exact ⟨_, _, rfl, rfl, h.1, h.2.1, Nat.le_succ _, Nat.le_refl _, by omega, h.2.2⟩)
  case rest =>
  obtain ⟨P', E', rfl, rfl, vP, vE, gP, gE, hPE, hx5⟩ := hcut
  have st : NearSt w wc w.heap.size A B C P' E' P Q qq rr 1 0 qq 1 M :=
    ⟨Hv3.out.ext (HE2.out.trans (HE3.out.trans hx5)), Hv4.out.ext (HE2.out.trans (HE3.out.trans hx5)), Hv5.out.ext (HE3.out.trans hx5), Hv6.out.ext (HE3.out.trans hx5), Hv7.out.ext hx5, Hv8.out.ext hx5, vP, vE, HvM.out.ext (HE1.out.trans (HE2.out.trans (HE3.out.trans hx5))), HqR.out.ext (HE1.out.trans (HE2.out.trans (HE3.out.trans hx5))), HE.out.trans (HE1.out.trans (HE2.out.trans (HE3.out.trans hx5))), rfl, L1.out, L2.out, L3.out, Nat.lt_of_lt_of_le L4.out gP, Nat.lt_of_lt_of_le L4.out gE, hPE⟩
  have Hst := hid st
  clear st vP vE gP gE hPE hx5 HI9 m0 m1 lB Ho Hv3 Hv4 Hv5 Hv6 Hv7 Hv8 HvM HqR HE HE1 HE2 HE3 L1 L2 L3 L4 LF J3 J4
  obtain ⟨t, ht0, hct⟩ := Hcf.out.step hQ Hd.out.eq Hd.out.pos (by have := Hd.out.lt; omega)
  injection ht0 with hq0 ht0
  subst hq0 ht0
  have at0 : NearAt P Q M (q0 :: t0) res P Q q0 rr 1 0 q0 1 rr.natAbs := ⟨⟨q0, [], t0, rfl, hct, Hres.out, rfl, rfl, rfl, rfl⟩, hQ, Int.le_refl _, Hd.out.pos, by have := Hd.out.lt; omega, rfl⟩
  have Hat := hid at0
  have hXX : X ≤ (X + 1) * X * X := Nat.le_mul_of_pos_left _ (Nat.mul_pos (by omega) hX)
  have HfX : Hid (∀ z : Int, z.natAbs ≤ X → Fit K z) := fun z hz => Hfit.out z (by omega)
  clear at0 hct Hd Hcf Hres H1 HfP HfQ HQ0 hPX hXX
  go_wp2_with fail
  go_loopg [14] rr.natAbs (fun k s14 wr => ∃ a b q r la lb ab be, NearSt w wr w.heap.size A B C P' E' a b q r la lb ab be M ∧ NearAt P Q M (q0 :: t0) res a b q r la lb ab be k)
  case atStart => exact ⟨P, Q, q0, rr, 1, 0, q0, 1, Hst.out, Hat.out⟩
  case round =>
    clear Hst Hat
    obtain ⟨za, zb, zq, zr, zla, zlb, zab, zbe, hst, hat⟩ := hrel
    have Hst := hid hst; have Hat := hid hat
    obtain ⟨sS, aS, nS, cS, bS, IS⟩ := hst.vS
    have m0 := bS.c0; have m1 := bS.c1; have lS := bS.lt
    have hcS := IS.cmp3
    have Hs := hid (Sign_any sS (.slice aS nS cS))
    obtain ⟨g, hg⟩ : ∃ g, cmp3 sS 0 = g := ⟨_, rfl⟩
    rw [hg] at Hs
    by_cases hr0 : zr = 0
    · have hg0 : g = 0 := by rw [← hg, hcS, hr0]; decide
      subst hg0
      obtain ⟨e1, e2⟩ := hat.done hr0
      rw [Hrp.out] at e1; rw [Hrq.out] at e2
      rw [e1, e2] at Hst
      clear e1 e2 hst hat IS hcS hg hr0 bS lS
      go_wp2_with fail
      refine (Hs.out _).mono ?_
      rintro e w1 ⟨rfl, hx1⟩
      have Hst1 := hid (Hst.out.ext hx1)
      clear m0 m1
      obtain ⟨s1, a1, n1, c1, bP, IP⟩ := Hst1.out.vP
      obtain ⟨s2, a2, n2, c2, bE, IE⟩ := Hst1.out.vE
      have y0 := bP.c0; have y1 := bP.c1; have y2 := bE.c0; have y3 := bE.c1
      have HL := hid (lowest_fr s1 s2 a1 a2 n1 c1 n2 c2 rp rq w1 IP IE K hK hK1 HFp.out HFq.out (by have := Hq0.out; omega) (bru_ext Hbr.out Hst1.out.X))
      rw [(nf_self Hq0.out Hco.out).1, (nf_self Hq0.out Hco.out).2] at HL
      clear IP IE bP bE
      go_wp2_with fail
      refine HL.out.mono ?_
      rintro e w9 ⟨s9, a9, n9, c9, s8, a8, n8, c8, rfl, I9, hx9⟩
      have qr := Hst1.out.qR.ext hx9
      have j0 := qr.c0; have j1 := qr.c1; have j2 := qr.c2; have j3 := qr.c3; have i0 := qr.f0 0; have i1 := qr.f0 1; have i2 := qr.f0 2; have i3 := qr.f0 3
      have hkk := Keep64.set4 (w := w9) (.i64 j0) (.slice j1) (.i64 j2) (.slice j3) (notW_i64 s9) (notW_slice a9 n9 c9) (notW_i64 s8) (.slice a8 n8 c8)
      have HI9 := hid (I9.keep64 hkk)
      have HE9 := hid (Hst1.out.X.trans hx9)
      clear I9 hkk y0 y1 y2 y3
      go_wp2_with fail
      exact bodyPost_ret (v := .agg #[.int .i64 s9, .slice a9 n9 c9, .int .i64 s8, .slice a8 n8 c8]) (by simp [results, Tryz.results27, go_sem, j0, j1, j2, j3]) rfl ⟨s9, a9, n9, c9, s8, a8, n8, c8, rfl, HI9.out, (HE9.out.put2 (by omega) _ _).put2 (by omega) _ _⟩
    · have hbn : (g != 0) = true := by
        have := Bx.sg hg hcS hr0
        rw [bne, this]; rfl
      have Hr0 := hid hr0
      clear hst hat IS hcS hg hr0 bS lS
      go_wp2_with fail
      refine (Hs.out _).mono ?_
      rintro e w1 ⟨rfl, hx1⟩
      have st1 := Hst.out.ext hx1
      obtain ⟨sA, aA, nA, cA, bA, IA⟩ := st1.vA
      obtain ⟨sB, aB, nB, cB, bB, IB⟩ := st1.vB
      obtain ⟨sR, aR, nR, cR, bR, IR⟩ := st1.vS
      have hne := st1.ne
      have st2 := (st1.putA IB).putB (IR.keep64 (bA.keep sB aB nB cB))
      have IB2 := (IB.keep64 (bA.keep sB aB nB cB)).keep64 ((bB.put2' (k := A) (by omega) (.int .i64 sB) (.slice aB nB cB)).keep sR aR nR cR)
      have k0 := bA.c0; have k1 := bA.c1; have k2 := bB.c0; have k3 := bB.c1; have k4 := bR.c0; have k5 := bR.c1
      have g0 := bA.f0; have g1 := bA.f1; have g2 := bB.f0; have g3 := bB.f1
      have Hst2 := hid st2
      clear m0 m1 Hs st1 st2
      go_wp2_with fail
      go_region
      clear hbn
      go_wp2_with fail
      have HIB2 := hid (IB2.ext (Below.drew (Ext.refl _)))
      have HIR2 : Hid (IsInt _ sR aR nR cR zr) := hid (((IR.keep64 (bA.keep sB aB nB cB)).keep64 ((bB.put2' (k := A) (by omega) (.int .i64 sB) (.slice aB nB cB)).keep sR aR nR cR)).ext (Below.drew (Ext.refl _)))
      have Hst3 := hid (Hst2.out.ext (Below.drew (Ext.refl _)))
      clear IA IB IR bA bB bR k0 k1 k2 k3 k4 k5 g0 g1 g2 g3 Hst2 Hst IB2
      generalize ((((w1.setCell ⟨A, 0, none⟩ (.int .i64 sB)).setCell ⟨A, 1, none⟩ (.slice aB nB cB)).setCell ⟨A + 1, 0, none⟩ (.int .i64 sR)).setCell ⟨A + 1, 1, none⟩ (.slice aR nR cR)).drew = w2 at *
      have hb0 := Hat.out.b0
      have hbQ := Hat.out.bQ; have hr00 := Hat.out.r0; have hrb := Hat.out.rb
      have hzb : Fit K zb ∧ Fit K zr := ⟨HfX.out _ (by omega), HfX.out _ (by omega)⟩
      refine (Div_any sB sR aB aR nB cB nR cR zb zr w2 HIB2.out HIR2.out K hK hK1 hzb.1 hzb.2 Hr0.out).mono ?_
      rintro e w3 ⟨s5, a5, n5, c5, s6, a6, n6, c6, q', r', rfl, I5, I6, hd, hx3⟩
      obtain ⟨f1, f2, f3, f4, f5, F6, F7⟩ := Hat.out.next (q' := q') (r' := r') hX Hroom.out hd.eq hd.pos (by have := hd.lt; omega)
      have HF6 := hid F6; have HF7 := hid F7
      have st3 := Hst3.out.ext hx3
      obtain ⟨sQ, aQ, nQ, cQ, bQ, _⟩ := st3.vQ
      obtain ⟨sT, aT, nT, cT, bT, _⟩ := st3.vS
      have st4 := (st3.putQ I5).putS (I6.keep64 (bQ.keep s5 a5 n5 c5))
      have k0 := bQ.c0; have k1 := bQ.c1; have k2 := bT.c0; have k3 := bT.c1
      have g0 := bQ.f0; have g1 := bQ.f1; have g2 := bT.f0; have g3 := bT.f1
      have Hst4 := hid st4
      clear HIB2 HIR2 st3 st4 Hst3 F6 F7 hzb
      go_wp2_with fail
      clear k0 k1 k2 k3 g0 g1 g2 g3 bQ bT I5 I6
      generalize (((w3.setCell ⟨B, 0, none⟩ (.int .i64 s5)).setCell ⟨B, 1, none⟩ (.slice a5 n5 c5)).setCell ⟨B + 1, 0, none⟩ (.int .i64 s6)).setCell ⟨B + 1, 1, none⟩ (.slice a6 n6 c6) = w4 at *
      obtain ⟨sq, aq, nq, cq, bq, Iq⟩ := Hst4.out.vQ
      obtain ⟨se, ae, ne, ce, be, Ie⟩ := Hst4.out.vE
      obtain ⟨sl, al, nl, cl, bl, Il⟩ := Hst4.out.vM
      have Fq := HfX.out _ f1; have Fe := HfX.out _ f4; have Fl := HfX.out _ f5
      have Fqe : Fit K (q' * zbe) := Hfit.out _ (near_mul hX f1 f4)
      have HM := hid (fun wx (hx : Ext w4 wx) => Mul_any sq se aq ae nq cq ne ce q' zbe wx (Iq.ext hx) (Ie.ext hx) K hK Fq Fe)
      have HIl := hid Il; have HFqe := hid Fqe; have HFl := hid Fl
      have m0 := bq.c0; have m1 := bq.c1; have m2 := be.c0; have m3 := be.c1; have m4 := bl.c0; have m5 := bl.c1
      have lq := bq.lt; have le := be.lt; have ll := bl.lt
      clear Iq Ie Il Fqe Fl bq be bl
      go_cut [14] from 31 to 59 (fun s14 wx => ∃ D : Nat, s14 = .pointer (some ⟨D, 0, none⟩) ∧ VBox wx D (q' * zbe + zlb) ∧ w4.heap.size ≤ D ∧ Ext w4 wx)
      case first =>
        have hE00 : Ext w4 w4 := Ext.refl _
        have hE0d : Ext w4 w4.drew := Below.drew (Ext.refl _)
        go_region_held3 (fun w' => w'.cell? ⟨B, 0, none⟩ = some (.int .i64 sq) ∧ w'.cell? ⟨B, 1, none⟩ = some (.slice aq nq cq) ∧ w'.cell? ⟨E', 0, none⟩ = some (.int .i64 se) ∧ w'.cell? ⟨E', 1, none⟩ = some (.slice ae ne ce) ∧ w'.cell? ⟨C + 1, 0, none⟩ = some (.int .i64 sl) ∧ w'.cell? ⟨C + 1, 1, none⟩ = some (.slice al nl cl))
          (refine ⟨cellKeep (W := w4) ?_ lq m0, cellKeep (W := w4) ?_ lq m1, cellKeep (W := w4) ?_ le m2, cellKeep (W := w4) ?_ le m3, cellKeep (W := w4) ?_ ll m4, cellKeep (W := w4) ?_ ll m5⟩ <;> (repeat (first | assumption | refine Ext.put ?_ (by omega) _ | refine Ext.then ?_ _ | refine Below.drew ?_)))
          (first | (go_at_call 46; refine (HM.out _ (by (repeat (first | assumption | refine Ext.put ?_ (by omega) _ | refine Ext.then ?_ _ | refine Below.drew ?_)))).mono ?_; rintro e w5 ⟨s7, a7, n7, c7, rfl, I7, hx5⟩; have he5 : Ext w4 w5 := Ext.trans (by (repeat (first | assumption | refine Ext.put ?_ (by omega) _ | refine Ext.then ?_ _ | refine Below.drew ?_))) hx5; have z5 := he5.size; (try (have hR1 := Res.ext (res_newd w4) hx5; have k0 := hR1.c0; have k1 := hR1.c1; have g0 := hR1.f0; have g1 := hR1.f1))) | (go_at_call 50; refine (Add_any s7 sl a7 al n7 c7 nl cl (q' * zbe) zlb _ (I7.ext (by first | exact Ext.refl _ | exact Ext.alloc _ _)) (HIl.out.ext (by (repeat (first | assumption | refine Ext.put ?_ (by omega) _ | refine Ext.then ?_ _ | refine Below.drew ?_)))) K hK HFqe.out HFl.out).mono ?_; rintro e w6 ⟨s8, a8, n8, c8, rfl, I8, hx6⟩; have he6 : Ext w4 w6 := Ext.trans (by (repeat (first | assumption | refine Ext.put ?_ (by omega) _ | refine Ext.then ?_ _ | refine Below.drew ?_))) hx6; have z6 := he6.size; (try (have hR2 := Res.ext hR1 hx6; have k0 := hR2.c0; have k1 := hR2.c1; have g0 := hR2.f0; have g1 := hR2.f1)); (try (have hR2 := Res.ext (res_new w5) hx6; have k0 := hR2.c0; have k1 := hR2.c1; have g0 := hR2.f0; have g1 := hR2.f1))))
        all_goals
          go_wp2_with fail
          go_meet
          first
          | exact ⟨_, rfl, vbox_new I8, z6, he6.then _⟩
          | exact ⟨_, rfl, VBox.own hR2.box I8, by omega, he6.put2 (by omega) _ _⟩
      case rest =>
      obtain ⟨D, rfl, vD, gD, hx5⟩ := hcut
      have st5 := Hst4.out.ext hx5
      have HvD := hid vD; have Hst5 := hid st5
      obtain ⟨sd, ad, nd, cd, bd, Id⟩ := vD
      obtain ⟨sz, az, nz, cz, bz, Iz⟩ := st5.vm
      have k0 := bd.c0; have k1 := bd.c1; have k2 := bz.c0; have k3 := bz.c1
      have Fd : Fit K (q' * zbe + zlb) := Hfit.out _ (near_sum hX f1 f4 f5)
      obtain ⟨g, hg⟩ : ∃ g, cmp3 (q' * zbe + zlb) M = g := ⟨_, rfl⟩
      have HC := hid (Cmp_any sd sz ad az nd cd nz cz (q' * zbe + zlb) M wc Id Iz K hK Fd HfM.out)
      rw [hg] at HC
      clear m0 m1 m2 m3 m4 m5 lq le ll HM HIl HFqe HFl st5 Id Iz bd bz Fd
      by_cases hM : M < q' * zbe + zlb
      · obtain ⟨e1, e2⟩ := HF6.out hM
        rw [Hrp.out] at e1; rw [Hrq.out] at e2
        have hgt : (0 : Int) < g := by rw [← hg]; unfold cmp3; rw [if_neg (by omega), if_pos (by omega)]; decide
        rw [e1, e2] at Hst5
        clear e1 e2 hg hM HF6 HF7
        go_wp2_with fail
        refine HC.out.mono ?_
        rintro e w6 ⟨rfl, hx6⟩
        have Hst6 := hid (Hst5.out.ext hx6)
        clear k0 k1 k2 k3
        obtain ⟨s1, a1, n1, c1, bP, IP⟩ := Hst6.out.vP
        obtain ⟨s2, a2, n2, c2, bE, IE⟩ := Hst6.out.vE
        have y0 := bP.c0; have y1 := bP.c1; have y2 := bE.c0; have y3 := bE.c1
        have HL := hid (lowest_fr s1 s2 a1 a2 n1 c1 n2 c2 rp rq w6 IP IE K hK hK1 HFp.out HFq.out (by have := Hq0.out; omega) (bru_ext Hbr.out Hst6.out.X))
        rw [(nf_self Hq0.out Hco.out).1, (nf_self Hq0.out Hco.out).2] at HL
        clear IP IE bP bE
        go_wp2_with fail
        refine HL.out.mono ?_
        rintro e w9 ⟨s9, a9, n9, c9, s8, a8, n8, c8, rfl, I9, hx9⟩
        have qr := Hst6.out.qR.ext hx9
        have j0 := qr.c0; have j1 := qr.c1; have j2 := qr.c2; have j3 := qr.c3; have i0 := qr.f0 0; have i1 := qr.f0 1; have i2 := qr.f0 2; have i3 := qr.f0 3
        have hkk := Keep64.set4 (w := w9) (.i64 j0) (.slice j1) (.i64 j2) (.slice j3) (notW_i64 s9) (notW_slice a9 n9 c9) (notW_i64 s8) (.slice a8 n8 c8)
        have HI9 := hid (I9.keep64 hkk)
        have HE9 := hid (Hst6.out.X.trans hx9)
        clear I9 hkk y0 y1 y2 y3
        go_wp2_with fail
        exact bodyPost_ret (v := .agg #[.int .i64 s9, .slice a9 n9 c9, .int .i64 s8, .slice a8 n8 c8]) (by simp [results, Tryz.results27, go_sem, j0, j1, j2, j3]) rfl ⟨s9, a9, n9, c9, s8, a8, n8, c8, rfl, HI9.out, (HE9.out.put2 (by omega) _ _).put2 (by omega) _ _⟩
      · have hgt : ¬ (0 : Int) < g := by rw [← hg]; unfold cmp3; split <;> (try split) <;> omega
        have HF8 := hid (HF7.out (by omega))
        clear hg hM HF6 HF7
        go_wp2_with fail
        refine HC.out.mono ?_
        rintro e w6 ⟨rfl, hx6⟩
        have Hst6 := hid (Hst5.out.ext hx6); have HvD6 := hid (HvD.out.ext hx6)
        have gD6 : w4.heap.size ≤ D := gD
        clear k0 k1 k2 k3 HC HvD Hst5
        obtain ⟨sq, aq, nq, cq, bq, Iq⟩ := Hst6.out.vQ
        obtain ⟨se, ae, ne, ce, be, Ie⟩ := Hst6.out.vP
        obtain ⟨sl, al, nl, cl, bl, Il⟩ := Hst6.out.vL
        have Fq := HfX.out _ f1
        have Fe : Fit K zab := Hfit.out _ (Nat.le_trans f2 (Nat.le_mul_of_pos_right _ hX))
        have Fl : Fit K zla := Hfit.out _ (Nat.le_trans f3 (Nat.le_mul_of_pos_right _ hX))
        have Fqe : Fit K (q' * zab) := Hfit.out _ (near_big f1 f2)
        have HM := hid (fun wx (hx : Ext w6 wx) => Mul_any sq se aq ae nq cq ne ce q' zab wx (Iq.ext hx) (Ie.ext hx) K hK Fq Fe)
        have HIl := hid Il; have HIe := hid Ie; have HFqe := hid Fqe; have HFl := hid Fl
        have Hbl := hid bl; have Hbe := hid be
        have m0 := bq.c0; have m1 := bq.c1; have m2 := be.c0; have m3 := be.c1; have m4 := bl.c0; have m5 := bl.c1
        have lq := bq.lt; have le := be.lt; have ll := bl.lt
        have hne6 := Hst6.out.ne
        have n1' : ¬ C = P' := by omega
        have n2' : ¬ P' = C := by omega
        clear Iq Ie Il Fqe Fl bq be bl Fq Fe
        go_wp2_with fail
        go_cut [] from 31 to 59 (fun wx => NearSt w wx w.heap.size A B C P' E' zb zr q' r' zab zlb (q' * zab + zla) zbe M ∧ VBox wx D (q' * zbe + zlb))
        case first =>
          have hE0d : Ext w6 w6.drew := Below.drew (Ext.refl _)
          refine wp_region_K 6 (fun w' => w'.cell? ⟨B, 0, none⟩ = some (.int .i64 sq) ∧ w'.cell? ⟨B, 1, none⟩ = some (.slice aq nq cq) ∧ w'.cell? ⟨P', 0, none⟩ = some (.int .i64 se) ∧ w'.cell? ⟨P', 1, none⟩ = some (.slice ae ne ce) ∧ w'.cell? ⟨C, 0, none⟩ = some (.int .i64 sl) ∧ w'.cell? ⟨C, 1, none⟩ = some (.slice al nl cl)) (by kernel_rfl) ?_
          have hHeld : w6.drew.cell? ⟨B, 0, none⟩ = some (.int .i64 sq) ∧ w6.drew.cell? ⟨B, 1, none⟩ = some (.slice aq nq cq) ∧ w6.drew.cell? ⟨P', 0, none⟩ = some (.int .i64 se) ∧ w6.drew.cell? ⟨P', 1, none⟩ = some (.slice ae ne ce) ∧ w6.drew.cell? ⟨C, 0, none⟩ = some (.int .i64 sl) ∧ w6.drew.cell? ⟨C, 1, none⟩ = some (.slice al nl cl) := ⟨m0, m1, m2, m3, m4, m5⟩
          refine anyK_take (i := 0) (v := ?_) rfl (by kernel_rfl) (by kernel_rfl) (by kernel_rfl) (N := 4) (by kernel_rfl) (by kernel_rfl) (by kernel_rfl) (fun _ _ _ h => h) (Or.inl ⟨by rfl, ?_⟩) hHeld ?_
          rotate_left 1
          · intro w hSw
            go_simp
            try with_reducible rfl
          show anyK _ _ _ _ _ _ _ _ (Act.put _ (some 52) _) _
          simp only [Act.put, List.setIfInBounds_toArray, List.set_cons_zero, List.set_cons_succ]
          refine anyK_take (i := 1) (v := ?_) rfl (by kernel_rfl) (by kernel_rfl) (by kernel_rfl) (N := 4) (by kernel_rfl) (by kernel_rfl) (by kernel_rfl) (fun _ _ _ h => h) (Or.inl ⟨by rfl, ?_⟩) hHeld ?_
          rotate_left 1
          · intro w hSw
            go_simp
            try with_reducible rfl
          show anyK _ _ _ _ _ _ _ _ (Act.put _ (some 53) _) _
          simp only [Act.put, List.setIfInBounds_toArray, List.set_cons_zero, List.set_cons_succ]
          refine anyK_take (i := 2) (v := ?_) rfl (by kernel_rfl) (by kernel_rfl) (by kernel_rfl) (N := 4) (by kernel_rfl) (by kernel_rfl) (by kernel_rfl) (fun _ _ _ h => h) (Or.inl ⟨by rfl, ?_⟩) hHeld ?_
          rotate_left 1
          · intro w hSw
            go_simp
            try with_reducible rfl
          show anyK _ _ _ _ _ _ _ _ (Act.put _ (some 54) _) _
          simp only [Act.put, List.setIfInBounds_toArray, List.set_cons_zero, List.set_cons_succ]
          refine anyK_take (i := 4) (v := ?_) rfl (by kernel_rfl) (by kernel_rfl) (by kernel_rfl) (N := 4) (by kernel_rfl) (by kernel_rfl) (by kernel_rfl) (fun _ _ _ h => h) (Or.inl ⟨by rfl, ?_⟩) hHeld ?_
          rotate_left 1
          · intro w hSw
            go_simp
            try with_reducible rfl
          show anyK _ _ _ _ _ _ _ _ (Act.put _ (some 56) _) _
          simp only [Act.put, List.setIfInBounds_toArray, List.set_cons_zero, List.set_cons_succ]
          clear hHeld
          refine anyK_one (i := 3) (by kernel_rfl) rfl (fun Kk hKk => ?_)
          go_simp
          (go_at_call 46; refine (HM.out _ hE0d).mono ?_; rintro e w7 ⟨s7, a7, n7, c7, rfl, I7, hx7⟩; have he7 : Ext w6 w7 := hE0d.trans hx7)
          go_wp2_with fail
          refine hKk.out _ _ (fun _ => ⟨cellKeep he7 lq m0, cellKeep he7 lq m1, cellKeep he7 le m2, cellKeep he7 le m3, cellKeep he7 ll m4, cellKeep he7 ll m5⟩) ?_
          clear hKk Kk
          refine anyK_one (i := 5) (by kernel_rfl) rfl (fun Kk hKk => ?_)
          go_simp
          (go_at_call 50; refine (Add_any s7 sl a7 al n7 c7 nl cl (q' * zab) zla _ I7 (HIl.out.ext he7) K hK HFqe.out HFl.out).mono ?_; rintro e w8 ⟨s8, a8, n8, c8, rfl, I8, hx8⟩; have he8 : Ext w6 w8 := he7.trans hx8)
          go_wp2_with fail
          refine hKk.out _ _ (fun _ => ⟨cellKeep he8 lq m0, cellKeep he8 lq m1, cellKeep he8 le m2, cellKeep he8 le m3, cellKeep he8 ll m4, cellKeep he8 ll m5⟩) ?_
          clear hKk Kk
          have bl8 := Hbl.out.ext he8; have be8 := Hbe.out.ext he8
          have j0 := bl8.c0; have j1 := bl8.c1; have j2 := be8.c0; have j3 := be8.c1; have i0 := bl8.f0; have i1 := bl8.f1; have i2 := be8.f0; have i3 := be8.f1
          refine anyK_one (i := 6) (by kernel_rfl) rfl (fun Kk hKk => ?_)
          go_wp2_with fail
          refine hKk.out _ _ (fun h => Bool.noConfusion (show true = false from h)) ?_
          clear hKk Kk
          refine anyK_one (i := 7) (by kernel_rfl) rfl (fun Kk hKk => ?_)
          go_wp2_with fail
          refine hKk.out _ _ (fun h => Bool.noConfusion (show true = false from h)) ?_
          clear hKk Kk
          refine anyK_done (by kernel_rfl) ?_ _
          have st8 := Hst6.out.ext he8
          have lP4 := Hst4.out.vP.lt; have lL4 := Hst4.out.vL.lt
          have st9 := (st8.putL (HIe.out.ext he8)).putP (I8.keep64 (bl8.keep se ae ne ce))
          have be9 := be8.put2' (k := C) (by omega) (.int .i64 se) (.slice ae ne ce)
          have v9 := ((HvD6.out.ext he8).put bl8 (by omega) se ae ne ce).put be9 (by omega) s8 a8 n8 c8
          go_wp2_with fail
          go_meet
          exact ⟨st9, v9⟩
        case rest =>
        obtain ⟨stc, vDc⟩ := hcut
        clear m0 m1 m2 m3 m4 m5 lq le ll HM HIl HIe HFqe HFl Hbl Hbe n1' n2' hne6 Hst6 HvD6
        obtain ⟨sd, ad, nd, cd, bd, Id⟩ := vDc
        obtain ⟨se, ae, ne, ce, be, Ie⟩ := stc.vE
        obtain ⟨sl, al, nl, cl, bl, _⟩ := stc.vM
        have hnc := stc.ne
        have lE4 := Hst4.out.vE.lt; have lM4 := Hst4.out.vM.lt
        have st9 := (stc.putM Ie).putE (Id.keep64 (bl.keep se ae ne ce))
        have Hst9 := hid (st9.ext (Below.drew (Ext.refl _)))
        have k0 := bd.c0; have k1 := bd.c1; have k2 := be.c0; have k3 := be.c1; have k4 := bl.c0; have k5 := bl.c1
        have g2 := be.f0; have g3 := be.f1; have g4 := bl.f0; have g5 := bl.f1
        have n1' : ¬ D = C + 1 := by omega
        have n2' : ¬ D = E' := by omega
        have n3' : ¬ E' = C + 1 := by omega
        have n4' : ¬ C + 1 = E' := by omega
        clear stc st9 Id Ie bd be bl hgt
        go_wp2_with fail
        go_region
        go_wp2_with fail
        go_roundg r'.natAbs
        case measure => exact HF8.out.2
        case rel => exact ⟨zb, zr, q', r', zab, zbe, q' * zab + zla, q' * zbe + zlb, Hst9.out, HF8.out.1⟩

end Go.Proofs.YtdiojbgbeeojkaaGreatDoor
