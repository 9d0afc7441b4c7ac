/-
  Div: quotient and rest.
-/
import Derived.Test.YtdiojbgbeeojkaaGreatDoorMDivT

namespace Go.Proofs.YtdiojbgbeeojkaaGreatDoor
open Go.RowKit

theorem cellKeep {W w' : World} (h : Ext W w') {b o : Nat} {v : Value} (hb : b < W.heap.size) (hc : W.cell? ⟨b, o, none⟩ = some v) : w'.cell? ⟨b, o, none⟩ = some v := (h.cell (p := ⟨b, o, none⟩) hb).trans hc
theorem cellPut {w' : World} {g o' b o : Nat} {u v : Value} (hne : b ≠ g) (hc : w'.cell? ⟨b, o, none⟩ = some v) : (w'.setCell ⟨g, o', none⟩ u).cell? ⟨b, o, none⟩ = some v := by
  have hO : Only g w' (w'.setCell ⟨g, o', none⟩ u) := (Only.refl _ _).setCell _ _
  exact (World.cell?_of_block (a := ⟨b, o, none⟩) (hO.block _ hne)).trans hc

theorem Sub_from {w : World} {s1 : Int} {a1 : Option Addr} {n1 c1 : Nat} {z1 : Int} (h1 : IsInt w s1 a1 n1 c1 z1) (K : Nat) (hK : K ≤ 4194304) (hf1 : Fit K z1) : ∀ (wx : World) (s2 : Int) (a2 : Option Addr) (n2 c2 : Nat) (z2 : Int), Ext w wx → IsInt wx s2 a2 n2 c2 z2 → Fit K z2 →
    Calls Tryz.prog 86 #[.agg #[.int .i64 s1, .slice a1 n1 c1], .agg #[.int .i64 s2, .slice a2 n2 c2]] wx fun e w' =>
    ∃ (s' : Int) (a' : Option Addr) (n' c' : Nat), e = .returned (.agg #[.int .i64 s', .slice a' n' c']) ∧ IsInt w' s' a' n' c' (z1 - z2) ∧ Ext w w' ∧ Ext wx w' :=
  fun wx s2 a2 n2 c2 z2 hx h2 hf2 => (Sub_any s1 s2 a1 a2 n1 c1 n2 c2 z1 z2 wx (h1.ext hx) h2 K hK hf1 hf2).mono fun _ _ ⟨s', a', n', c', e1, e2, e3⟩ => ⟨s', a', n', c', e1, e2, hx.trans e3, e3⟩

/-- q and r are what division with rest tells of a and b. -/
structure IsDiv (a b q r : Int) : Prop where
  eq : a = q * b + r
  pos : 0 ≤ r
  lt : r < b.natAbs
  le : q.natAbs ≤ a.natAbs

theorem tdiv_le (a b : Int) : (a.tdiv b).natAbs ≤ a.natAbs := by
  rw [Int.natAbs_tdiv]; exact Nat.div_le_self _ _

theorem isDiv_pos {a b : Int} (hb : b ≠ 0) (h : ¬ a.tmod b < 0) : IsDiv a b (a.tdiv b) (a.tmod b) := by
  refine ⟨?_, by omega, ?_, tdiv_le a b⟩
  · have := Int.mul_tdiv_add_tmod a b
    rw [Int.mul_comm (a.tdiv b) b]; omega
  · have hn : (a.tmod b).natAbs = a.natAbs % b.natAbs := Int.natAbs_tmod a b
    have h3 : a.natAbs % b.natAbs < b.natAbs := Nat.mod_lt _ (by omega)
    omega

theorem div_step_le {a b : Int} (hb : b ≠ 0) (h : a.tmod b < 0) : (a.tdiv b).natAbs + 1 ≤ a.natAbs := by
  have h1 : (a.tdiv b).natAbs = a.natAbs / b.natAbs := Int.natAbs_tdiv a b
  have h2 : (a.tmod b).natAbs = a.natAbs % b.natAbs := Int.natAbs_tmod a b
  have h3 := Nat.div_add_mod a.natAbs b.natAbs
  have h4 : a.natAbs / b.natAbs ≤ b.natAbs * (a.natAbs / b.natAbs) := Nat.le_mul_of_pos_left _ (by omega)
  omega

theorem isDiv_neg {a b : Int} (h : a.tmod b < 0) (hb : b < 0) : IsDiv a b (a.tdiv b + 1) (a.tmod b - b) := by
  have hn : (a.tmod b).natAbs = a.natAbs % b.natAbs := Int.natAbs_tmod a b
  have h3 : a.natAbs % b.natAbs < b.natAbs := Nat.mod_lt _ (by omega)
  have h4 := div_step_le (by omega) h
  refine ⟨?_, by omega, by omega, by omega⟩
  have := Int.mul_tdiv_add_tmod a b
  rw [Int.add_mul, Int.mul_comm (a.tdiv b) b]; omega

theorem isDiv_plus {a b : Int} (h : a.tmod b < 0) (hb : 0 < b) : IsDiv a b (a.tdiv b - 1) (a.tmod b + b) := by
  have hn : (a.tmod b).natAbs = a.natAbs % b.natAbs := Int.natAbs_tmod a b
  have h3 : a.natAbs % b.natAbs < b.natAbs := Nat.mod_lt _ (by omega)
  have h4 := div_step_le (by omega) h
  refine ⟨?_, by omega, by omega, by omega⟩
  have := Int.mul_tdiv_add_tmod a b
  rw [Int.sub_mul, Int.mul_comm (a.tdiv b) b]; omega

theorem Fit.le {k : Nat} {x y : Int} (h : Fit k y) (hx : x.natAbs ≤ y.natAbs) : Fit k x := by unfold Fit at *; omega
theorem Fit.one {k : Nat} (h : 1 ≤ k) : Fit k 1 := by
  unfold Fit
  have h1 : B64 ^ 1 ≤ B64 ^ k := Nat.pow_le_pow_right B64_pos h
  rw [Nat.pow_one] at h1
  have h2 : 1 < B64 := by rw [B64_eq]; decide
  exact Nat.lt_of_lt_of_le h2 h1

/-- The world behind the boxing of two numbers and the room for two numbers and a fault. -/
structure BoxesD (w W : World) (x1 y1 x2 y2 : Value) : Prop where
  ext : Ext w W
  size : W.heap.size = w.heap.size + 5
  c0 : W.cell? ⟨w.heap.size, 0, none⟩ = some x1
  c1 : W.cell? ⟨w.heap.size, 1, none⟩ = some y1
  d0 : W.cell? ⟨w.heap.size + 1, 0, none⟩ = some x2
  d1 : W.cell? ⟨w.heap.size + 1, 1, none⟩ = some y2
  res : Res W (w.heap.size + 1 + 1)
  res' : Res W (w.heap.size + 1 + 1 + 1)
  fres : FRes W (w.heap.size + 1 + 1 + 1 + 1)

theorem boxesD (w : World) (x1 y1 x2 y2 : Value) : BoxesD w (((((w.alloc (.cells #[x1, y1] 24)).alloc (.cells #[x2, y2] 24)).alloc (.cells #[.int .i64 0, .slice none 0 0] 24)).alloc (.cells #[.int .i64 0, .slice none 0 0] 24)).alloc (.cells #[.int .i64 0, .int .i64 0] 28)) x1 y1 x2 y2 := by
  have hb := boxes22 w x1 y1 x2 y2
  generalize hW : (((w.alloc (.cells #[x1, y1] 24)).alloc (.cells #[x2, y2] 24)).alloc (.cells #[.int .i64 0, .slice none 0 0] 24)).alloc (.cells #[.int .i64 0, .slice none 0 0] 24) = W at *
  have he := Ext.alloc W (.cells #[.int .i64 0, .int .i64 0] 28)
  have hs := hb.size
  refine ⟨hb.ext.then _, by simp [hs], cellKeep he (by omega) hb.c0, cellKeep he (by omega) hb.c1, cellKeep he (by omega) hb.d0, cellKeep he (by omega) hb.d1, hb.res.ext he, hb.res'.ext he, ⟨by simp [hs], ?_⟩⟩
  have := heap_alloc_new W (.cells #[.int .i64 0, .int .i64 0] 28)
  rw [hs] at this
  exact this

theorem Keep64.set6 {w : World} {p q r s t y : Addr} {u v x z k : Value} (hp : NotW w p) (hq : NotW w q) (hr : NotW w r) (hs : NotW w s) (ht : NotW w t) (hy : NotW w y) (hu : ∀ y, u ≠ .int .u64 y) (hv : ∀ y, v ≠ .int .u64 y) (hx : ∀ y, x ≠ .int .u64 y) (hz : ∀ y, z ≠ .int .u64 y) (hk : ∀ y, k ≠ .int .u64 y) (j : Value) :
    Keep64 w ((((((w.setCell p u).setCell q v).setCell r x).setCell s z).setCell t k).setCell y j) := by
  have h1 : ∀ a, NotW w a → NotW ((w.setCell p u).setCell q v) a := fun a ha => (ha.set hp hu).set (hq.set hp hu) hv
  have h2 : ∀ a, NotW w a → NotW ((((w.setCell p u).setCell q v).setCell r x).setCell s z) a := fun a ha => ((h1 a ha).set (h1 r hr) hx).set ((h1 s hs).set (h1 r hr) hx) hz
  exact (Keep64.set4 hp hq hr hs hu hv hx z).trans (Keep64.set2 (h2 t ht) (h2 y hy) hk j)

set_option maxHeartbeats 1600000 in
set_option maxRecDepth 100000 in
theorem Div_zero (s1 s2 : Int) (a1 a2 : Option Addr) (n1 c1 n2 c2 : Nat) (w : World) (h2 : IsInt w s2 a2 n2 c2 0) :
    Calls Tryz.prog 57 #[.agg #[.int .i64 s1, .slice a1 n1 c1], .agg #[.int .i64 s2, .slice a2 n2 c2]] w fun e w' => e = .returned (.tuple #[.agg #[.int .i64 0, .slice none 0 0], .agg #[.int .i64 0, .slice none 0 0], .agg #[.int .i64 4, .int .i64 0]]) ∧ Ext w w' := by
  have hc := h2.cmp3
  have hc0 : cmp3 (0 : Int) 0 = 0 := by decide
  rw [hc0] at hc
  have Hs := hid (Sign_any s2 (.slice a2 n2 c2))
  rw [hc] at Hs
  clear h2 hc hc0
  go_enter Tryz.func57, Tryz.ntmps57
  go_wp2_with fail
  have hbx := boxesD w (.int .i64 s1) (.slice a1 n1 c1) (.int .i64 s2) (.slice a2 n2 c2)
  generalize ((((w.alloc (.cells #[.int .i64 s1, .slice a1 n1 c1] 24)).alloc (.cells #[.int .i64 s2, .slice a2 n2 c2] 24)).alloc (.cells #[.int .i64 0, .slice none 0 0] 24)).alloc (.cells #[.int .i64 0, .slice none 0 0] 24)).alloc (.cells #[.int .i64 0, .int .i64 0] 28) = W0 at *
  refine (Hs.out _).mono ?_
  rintro e we ⟨rfl, hxe⟩
  have r1 := hbx.res.ext hxe; have r2 := hbx.res'.ext hxe; have r3 := hbx.fres.ext hxe
  have k0 := r1.c0; have k1 := r1.c1; have g0 := r1.f0; have g1 := r1.f1
  have k2 := r2.c0; have k3 := r2.c1; have g2 := r2.f0; have g3 := r2.f1
  have k4 := r3.c0; have k5 := r3.c1; have g4 := r3.f0; have g5 := r3.f1
  go_wp2_with fail
  exact bodyPost_ret (v := .tuple #[.agg #[.int .i64 0, .slice none 0 0], .agg #[.int .i64 0, .slice none 0 0], .agg #[.int .i64 4, .int .i64 0]]) (by simp [results, Tryz.results57, go_sem, k0, k1, k2, k3, k4, k5]) rfl
    ⟨rfl, (((hbx.ext.trans hxe).put2 (by omega) _ _).put2 (by omega) _ _).put2 (by omega) _ _⟩

set_option maxHeartbeats 2000000 in
set_option maxRecDepth 100000 in
theorem Div_any (s1 s2 : Int) (a1 a2 : Option Addr) (n1 c1 n2 c2 : Nat) (z1 z2 : Int) (w : World) (h1 : IsInt w s1 a1 n1 c1 z1) (h2 : IsInt w s2 a2 n2 c2 z2) (K : Nat) (hK : K ≤ 4194304) (hK1 : 1 ≤ K) (hf1 : Fit K z1) (hf2 : Fit K z2) (hz0 : z2 ≠ 0) :
    Calls Tryz.prog 57 #[.agg #[.int .i64 s1, .slice a1 n1 c1], .agg #[.int .i64 s2, .slice a2 n2 c2]] w fun e w' => ∃ (s3 : Int) (a3 : Option Addr) (n3 c3 : Nat) (s4 : Int) (a4 : Option Addr) (n4 c4 : Nat) (q r : Int), e = .returned (.tuple #[.agg #[.int .i64 s3, .slice a3 n3 c3], .agg #[.int .i64 s4, .slice a4 n4 c4], .agg #[.int .i64 0, .int .i64 0]]) ∧ IsInt w' s3 a3 n3 c3 q ∧ IsInt w' s4 a4 n4 c4 r ∧ IsDiv z1 z2 q r ∧ Ext w w' := by
  have Hf1 := hid hf1; have Hf2 := hid hf2; have H1 := hid h1; have H2 := hid h2; have Hz0 := hid hz0
  have hc := h2.cmp3
  have hsg := h2.sign
  have Hs := hid (Sign_any s2 (.slice a2 n2 c2))
  obtain ⟨sg, hsg'⟩ : ∃ sg, cmp3 s2 0 = sg := ⟨_, rfl⟩
  have hb0 : (sg == 0) = false := by
    rw [beq_eq_false_iff_ne, ← hsg', hc]
    unfold cmp3
    split
    · decide
    · split
      · decide
      · omega
  rw [hsg'] at Hs
  have Hdt := hid (fun wx (hx : Ext w wx) => divTowards_any s1 s2 a1 a2 n1 c1 n2 c2 z1 z2 wx (h1.ext hx) (h2.ext hx) K hK hf1 hf2 hz0)
  have Hnb := hid (fun w0 : World => negative_from (w := w0) s2 (.slice a2 n2 c2))
  have Hsg := hid hsg.1
  have Hfq : Hid (Fit K (z1.tdiv z2)) := hf1.le (tdiv_le z1 z2)
  have Hfr : Hid (Fit K (z1.tmod z2)) := by
    refine hf2.le ?_
    rw [Int.natAbs_tmod]
    exact Nat.le_of_lt (Nat.mod_lt _ (by omega))
  clear hf1 hf2 h1 h2 hz0 hc hsg hsg'
  go_enter Tryz.func57, Tryz.ntmps57
  go_wp2_with fail
  have hbx := boxesD w (.int .i64 s1) (.slice a1 n1 c1) (.int .i64 s2) (.slice a2 n2 c2)
  generalize ((((w.alloc (.cells #[.int .i64 s1, .slice a1 n1 c1] 24)).alloc (.cells #[.int .i64 s2, .slice a2 n2 c2] 24)).alloc (.cells #[.int .i64 0, .slice none 0 0] 24)).alloc (.cells #[.int .i64 0, .slice none 0 0] 24)).alloc (.cells #[.int .i64 0, .int .i64 0] 28) = W0 at *
  have hB : w.heap.size + 4 < W0.heap.size := by have := hbx.size; omega
  refine (Hs.out _).mono ?_
  rintro e we ⟨rfl, hxe⟩
  have y0 := cellKeep hxe (by omega) hbx.c0; have y1 := cellKeep hxe (by omega) hbx.c1; have y2 := cellKeep hxe (by omega) hbx.d0; have y3 := cellKeep hxe (by omega) hbx.d1
  go_wp2_with fail
  refine (Hdt.out _ (hbx.ext.trans hxe)).mono ?_
  rintro e wd ⟨s3, a3, n3, c3, s4, a4, n4, c4, rfl, hI3, hI4, hxd⟩
  have Hn4 := hid (negative_any s4 (.slice a4 n4 c4))
  have hE1 := Ext.alloc wd (.cells #[.int .i64 s3, .slice a3 n3 c3] 24)
  have hE2 := Ext.alloc (wd.alloc (.cells #[.int .i64 s3, .slice a3 n3 c3] 24)) (.cells #[.int .i64 s4, .slice a4 n4 c4] 24)
  have hbq := boxed2 wd (.int .i64 s3) (.slice a3 n3 c3) (.int .i64 s4) (.slice a4 n4 c4)
  have Hsg4 := hid hI4.sign.1
  have HI3 := hid hI3; have HI4 := hid hI4
  clear hI3 hI4 y0 y1
  go_wp2_with fail
  generalize (wd.alloc (.cells #[.int .i64 s3, .slice a3 n3 c3] 24)).alloc (.cells #[.int .i64 s4, .slice a4 n4 c4] 24) = W1 at *
  refine (Hn4.out _).mono ?_
  rintro e wn ⟨rfl, hxn⟩
  have hBq : wd.heap.size + 1 < W1.heap.size := by have := hbq.size; omega
  have hBd : w.heap.size + 4 < wd.heap.size := by have := hxe.size; have := hxd.size; omega
  have hBn : wd.heap.size + 1 < wn.heap.size := by have := hxn.size; omega
  obtain ⟨q0, q1, q2, q3⟩ := keepb hxn hbq
  have hdn : Ext wd wn := hbq.ext.trans hxn
  have b0 := cellKeep (hxd.trans hdn) (by have := hxe.size; omega) y2; have b1 := cellKeep (hxd.trans hdn) (by have := hxe.size; omega) y3
  have hxn' : Ext W0 wn := hxe.trans (hxd.trans hdn)
  have rA := hbx.res.ext hxn'; have rB := hbx.res'.ext hxn'; have rF := hbx.fres.ext hxn'
  have HE : Hid (Ext w wn) := hbx.ext.trans hxn'
  have I3 := HI3.out.ext hdn; have I4 := HI4.out.ext hdn
  have HI2 := hid (H2.out.ext HE.out)
  have hwnd : Ext wn wn.drew := Below.drew (Ext.refl _)
  clear y2 y3 hE1 hE2 hxe hxd hxn hdn hxn' hbq hbx hBq hB
  by_cases hneg : s4 < 0
  · by_cases hnb : s2 < 0
    · have hd2 : decide (s2 < 0) = true := decide_eq_true hnb
      have hd4 : decide (s4 < 0) = true := decide_eq_true hneg
      have Hfin : Hid (IsDiv z1 z2 (z1.tdiv z2 + 1) (z1.tmod z2 - z2)) := isDiv_neg (Hsg4.out.1 hneg) (Hsg.out.1 hnb)
      rw [hd4]
      clear hd4 hneg
      go_wp2_with fail
      refine (Hnb.out wn _ (Ext.refl _)).mono ?_
      rintro e wm ⟨rfl, hxm, _⟩
      rw [hd2]
      clear hd2 hnb
      have u0 := cellKeep hxm (by omega) q0; have u1 := cellKeep hxm (by omega) q1; have u2 := cellKeep hxm (by omega) q2; have u3 := cellKeep hxm (by omega) q3; have u4 := cellKeep hxm (by omega) b0; have u5 := cellKeep hxm (by omega) b1
      have J3 := I3.ext hxm; have J4 := I4.ext hxm; have J2 := HI2.out.ext hxm
      have Ho := hid (Of_from (w := wm) 1 (by omega) (by omega)); have Hadd := hid (Add_from J3 K hK Hfq.out); have Hsub := hid (Sub_from J4 K hK Hfr.out)
      have hwmd : Ext wm wm.drew := Below.drew (Ext.refl _)
      have hBm : wd.heap.size + 1 < wm.heap.size := by have := hxm.size; omega
      have rA' := rA.ext hxm; have rB' := rB.ext hxm; have rF' := rF.ext hxm
      clear q0 q1 q2 q3 b0 b1 hwnd rA rB rF
      go_wp2_with fail
      go_region_held3 (fun w' => w'.cell? ⟨wd.heap.size, 0, none⟩ = some (.int .i64 s3) ∧ w'.cell? ⟨wd.heap.size, 1, none⟩ = some (.slice a3 n3 c3) ∧ w'.cell? ⟨wd.heap.size + 1, 0, none⟩ = some (.int .i64 s4) ∧ w'.cell? ⟨wd.heap.size + 1, 1, none⟩ = some (.slice a4 n4 c4) ∧ w'.cell? ⟨w.heap.size + 1, 0, none⟩ = some (.int .i64 s2) ∧ w'.cell? ⟨w.heap.size + 1, 1, none⟩ = some (.slice a2 n2 c2))
        (refine ⟨?_, ?_, ?_, ?_, ?_, ?_⟩ <;> (repeat (refine cellPut (by omega) ?_)) <;> exact cellKeep (W := wm) (by assumption) (by omega) (by assumption))
        (first | (go_at_call 35; refine (Ho.out _ (by assumption)).mono ?_; rintro e wa ⟨rfl, hea, hxa⟩) | (go_at_call 50; refine (Hadd.out _ 1 none 0 0 1 (by assumption) (IsInt.small _ _ (by omega) (by omega)) (Fit.one hK1)).mono ?_; rintro e wb ⟨s5, a5, n5, c5, rfl, hI5, heb, hxb⟩) | (go_at_call 86; refine (Hsub.out _ s2 a2 n2 c2 z2 (by assumption) (J2.ext (by assumption)) Hf2.out).mono ?_; rintro e wc ⟨s6, a6, n6, c6, rfl, hI6, hec, hxc⟩; have r1 := rA'.ext hec; have r2 := rB'.ext hec; have r3 := rF'.ext hec; have k0 := r1.c0; have k1 := r1.c1; have g0 := r1.f0; have g1 := r1.f1; have k2 := r2.c0; have k3 := r2.c1; have g2 := r2.f0; have g3 := r2.f1; have k4 := r3.c0; have k5 := r3.c1; have g4 := r3.f0; have g5 := r3.f1))
      all_goals
        go_wp2_with fail
        have hkk := Keep64.set6 (w := wc) (.i64 k0) (.slice k1) (.i64 k2) (.slice k3) (.i64 k4) (.i64 k5) (notW_i64 s5) (notW_slice a5 n5 c5) (notW_i64 s6) (notW_slice a6 n6 c6) (notW_i64 0) (.int .i64 0)
        exact bodyPost_ret (v := .tuple #[.agg #[.int .i64 s5, .slice a5 n5 c5], .agg #[.int .i64 s6, .slice a6 n6 c6], .agg #[.int .i64 0, .int .i64 0]]) (by simp [results, Tryz.results57, go_sem, k0, k1, k2, k3, k4, k5]) rfl
          ⟨s5, a5, n5, c5, s6, a6, n6, c6, _, _, rfl, (hI5.ext hxc).keep64 hkk, hI6.keep64 hkk, Hfin.out, ((((HE.out.trans hxm).trans hec).put2 (by omega) _ _).put2 (by omega) _ _).put2 (by omega) _ _⟩
    · have hd2 : decide (s2 < 0) = false := decide_eq_false hnb
      have hd4 : decide (s4 < 0) = true := decide_eq_true hneg
      have Hfin : Hid (IsDiv z1 z2 (z1.tdiv z2 - 1) (z1.tmod z2 + z2)) := isDiv_plus (Hsg4.out.1 hneg) (by have := Hz0.out; have := Hsg.out; omega)
      rw [hd4]
      clear hd4 hneg
      go_wp2_with fail
      refine (Hnb.out wn _ (Ext.refl _)).mono ?_
      rintro e wm ⟨rfl, hxm, _⟩
      rw [hd2]
      clear hd2 hnb
      have u0 := cellKeep hxm (by omega) q0; have u1 := cellKeep hxm (by omega) q1; have u2 := cellKeep hxm (by omega) q2; have u3 := cellKeep hxm (by omega) q3; have u4 := cellKeep hxm (by omega) b0; have u5 := cellKeep hxm (by omega) b1
      have J3 := I3.ext hxm; have J4 := I4.ext hxm; have J2 := HI2.out.ext hxm
      have Ho := hid (Of_from (w := wm) 1 (by omega) (by omega)); have Hsub := hid (Sub_from J3 K hK Hfq.out); have Hadd := hid (Add_from J4 K hK Hfr.out)
      have hwmd : Ext wm wm.drew := Below.drew (Ext.refl _)
      have hBm : wd.heap.size + 1 < wm.heap.size := by have := hxm.size; omega
      have rA' := rA.ext hxm; have rB' := rB.ext hxm; have rF' := rF.ext hxm
      clear q0 q1 q2 q3 b0 b1 hwnd rA rB rF
      go_wp2_with fail
      go_region_held3 (fun w' => w'.cell? ⟨wd.heap.size, 0, none⟩ = some (.int .i64 s3) ∧ w'.cell? ⟨wd.heap.size, 1, none⟩ = some (.slice a3 n3 c3) ∧ w'.cell? ⟨wd.heap.size + 1, 0, none⟩ = some (.int .i64 s4) ∧ w'.cell? ⟨wd.heap.size + 1, 1, none⟩ = some (.slice a4 n4 c4) ∧ w'.cell? ⟨w.heap.size + 1, 0, none⟩ = some (.int .i64 s2) ∧ w'.cell? ⟨w.heap.size + 1, 1, none⟩ = some (.slice a2 n2 c2))
        (refine ⟨?_, ?_, ?_, ?_, ?_, ?_⟩ <;> (repeat (refine cellPut (by omega) ?_)) <;> exact cellKeep (W := wm) (by assumption) (by omega) (by assumption))
        (first | (go_at_call 35; refine (Ho.out _ (by assumption)).mono ?_; rintro e wa ⟨rfl, hea, hxa⟩) | (go_at_call 86; refine (Hsub.out _ 1 none 0 0 1 (by assumption) (IsInt.small _ _ (by omega) (by omega)) (Fit.one hK1)).mono ?_; rintro e wb ⟨s5, a5, n5, c5, rfl, hI5, heb, hxb⟩) | (go_at_call 50; refine (Hadd.out _ s2 a2 n2 c2 z2 (by assumption) (J2.ext (by assumption)) Hf2.out).mono ?_; rintro e wc ⟨s6, a6, n6, c6, rfl, hI6, hec, hxc⟩; have r1 := rA'.ext hec; have r2 := rB'.ext hec; have r3 := rF'.ext hec; have k0 := r1.c0; have k1 := r1.c1; have g0 := r1.f0; have g1 := r1.f1; have k2 := r2.c0; have k3 := r2.c1; have g2 := r2.f0; have g3 := r2.f1; have k4 := r3.c0; have k5 := r3.c1; have g4 := r3.f0; have g5 := r3.f1))
      all_goals
        go_wp2_with fail
        have hkk := Keep64.set6 (w := wc) (.i64 k0) (.slice k1) (.i64 k2) (.slice k3) (.i64 k4) (.i64 k5) (notW_i64 s5) (notW_slice a5 n5 c5) (notW_i64 s6) (notW_slice a6 n6 c6) (notW_i64 0) (.int .i64 0)
        exact bodyPost_ret (v := .tuple #[.agg #[.int .i64 s5, .slice a5 n5 c5], .agg #[.int .i64 s6, .slice a6 n6 c6], .agg #[.int .i64 0, .int .i64 0]]) (by simp [results, Tryz.results57, go_sem, k0, k1, k2, k3, k4, k5]) rfl
          ⟨s5, a5, n5, c5, s6, a6, n6, c6, _, _, rfl, (hI5.ext hxc).keep64 hkk, hI6.keep64 hkk, Hfin.out, ((((HE.out.trans hxm).trans hec).put2 (by omega) _ _).put2 (by omega) _ _).put2 (by omega) _ _⟩
  · have Hfin : Hid (IsDiv z1 z2 (z1.tdiv z2) (z1.tmod z2)) := isDiv_pos Hz0.out (fun k => hneg (Hsg4.out.2 k))
    have hd4 : decide (s4 < 0) = false := decide_eq_false hneg
    rw [hd4]
    clear hd4 hneg
    have k0 := rA.c0; have k1 := rA.c1; have g0 := rA.f0; have g1 := rA.f1; have k2 := rB.c0; have k3 := rB.c1; have g2 := rB.f0; have g3 := rB.f1; have k4 := rF.c0; have k5 := rF.c1; have g4 := rF.f0; have g5 := rF.f1
    have hkk := Keep64.set6 (w := wn) (.i64 k0) (.slice k1) (.i64 k2) (.slice k3) (.i64 k4) (.i64 k5) (notW_i64 s3) (notW_slice a3 n3 c3) (notW_i64 s4) (notW_slice a4 n4 c4) (notW_i64 0) (.int .i64 0)
    go_wp2_with fail
    go_region
    go_wp2_with fail
    exact bodyPost_ret (v := .tuple #[.agg #[.int .i64 s3, .slice a3 n3 c3], .agg #[.int .i64 s4, .slice a4 n4 c4], .agg #[.int .i64 0, .int .i64 0]]) (by simp [results, Tryz.results57, go_sem, k0, k1, k2, k3, k4, k5]) rfl
      ⟨s3, a3, n3, c3, s4, a4, n4, c4, _, _, rfl, (I3.keep64 hkk).ext (Below.drew (Ext.refl _)), (I4.keep64 hkk).ext (Below.drew (Ext.refl _)), Hfin.out, Below.drew (((HE.out.put2 (by omega) _ _).put2 (by omega) _ _).put2 (by omega) _ _)⟩

end Go.Proofs.YtdiojbgbeeojkaaGreatDoor
