/-
  The reference's fractions: FCmp, FAdd, FSub.
-/
import Derived.Test.YtdiojbgbeeojkaaGreatDoorMFzA

namespace Go.Proofs.YtdiojbgbeeojkaaGreatDoor
open Go.RowKit

set_option maxHeartbeats 4000000 in
set_option maxRecDepth 100000 in
theorem FCmp_any (b1 : Bool) (a1 : Option Addr) (n1 c1 : Nat) (b2 : Bool) (a2 : Option Addr) (n2 c2 : Nat) (b3 : Bool) (a3 : Option Addr) (n3 c3 : Nat) (b4 : Bool) (a4 : Option Addr) (n4 c4 : Nat) (P Q R S : Int) (w : World) (h1 : IsZ w b1 a1 n1 c1 P) (h2 : IsZ w b2 a2 n2 c2 Q) (h3 : IsZ w b3 a3 n3 c3 R) (h4 : IsZ w b4 a4 n4 c4 S) (hn1 : n1 ≤ 40000) (hn2 : n2 ≤ 40000) (hn3 : n3 ≤ 40000) (hn4 : n4 ≤ 40000) (k : Int) (hk : k = if P * S - R * Q < 0 then -1 else if 0 < P * S - R * Q then 1 else 0) :
    Calls Tryz.prog 16 #[.agg #[.bool b1, .slice a1 n1 c1, .bool b2, .slice a2 n2 c2], .agg #[.bool b3, .slice a3 n3 c3, .bool b4, .slice a4 n4 c4]] w fun e w' => e = .returned (.int .i64 k) ∧ Ext w w' := by
  have Ek := Lib.hid hk
  clear hk
  have hE : Ext w ((w.alloc (.cells #[.bool b1, .slice a1 n1 c1, .bool b2, .slice a2 n2 c2] 35)).alloc (.cells #[.bool b3, .slice a3 n3 c3, .bool b4, .slice a4 n4 c4] 35)) := (ext_alloc w (.cells #[.bool b1, .slice a1 n1 c1, .bool b2, .slice a2 n2 c2] 35)).trans (ext_alloc _ (.cells #[.bool b3, .slice a3 n3 c3, .bool b4, .slice a4 n4 c4] 35))
  have bX := (fzbx_new w b1 a1 n1 c1 b2 a2 n2 c2).ext (ext_alloc _ (.cells #[.bool b3, .slice a3 n3 c3, .bool b4, .slice a4 n4 c4] 35))
  have bY := fzbx_new (w.alloc (.cells #[.bool b1, .slice a1 n1 c1, .bool b2, .slice a2 n2 c2] 35)) b3 a3 n3 c3 b4 a4 n4 c4
  rw [show (w.alloc (.cells #[.bool b1, .slice a1 n1 c1, .bool b2, .slice a2 n2 c2] 35)).heap.size = w.heap.size + 1 from by simp] at bY
  have IA := h1.ext hE; have IB := h2.ext hE; have IC := h3.ext hE; have ID := h4.ext hE
  clear h1 h2 h3 h4
  go_enter Tryz.func16, Tryz.ntmps16
  go_wp2_with fail
  generalize (w.alloc (.cells #[.bool b1, .slice a1 n1 c1, .bool b2, .slice a2 n2 c2] 35)).alloc (.cells #[.bool b3, .slice a3 n3 c3, .bool b4, .slice a4 n4 c4] 35) = W0 at *
  have m0 := bX.c0; have m1 := bX.c1; have m2 := bX.c2; have m3 := bX.c3; have m4 := bY.c0; have m5 := bY.c1; have m6 := bY.c2; have m7 := bY.c3
  have lX := bX.lt; have lY := bY.lt
  have h0d : Ext W0 W0.drew := Below.drew (Ext.refl _)
  go_region_held3 (fun w' => w'.cell? ⟨w.heap.size, 0, none⟩ = some (.bool b1) ∧ w'.cell? ⟨w.heap.size, 1, none⟩ = some (.slice a1 n1 c1) ∧ w'.cell? ⟨w.heap.size, 2, none⟩ = some (.bool b2) ∧ w'.cell? ⟨w.heap.size, 3, none⟩ = some (.slice a2 n2 c2) ∧ w'.cell? ⟨w.heap.size + 1, 0, none⟩ = some (.bool b3) ∧ w'.cell? ⟨w.heap.size + 1, 1, none⟩ = some (.slice a3 n3 c3) ∧ w'.cell? ⟨w.heap.size + 1, 2, none⟩ = some (.bool b4) ∧ w'.cell? ⟨w.heap.size + 1, 3, none⟩ = some (.slice a4 n4 c4))
    (exact ⟨cellKeep (W := W0) (by assumption) lX m0, cellKeep (W := W0) (by assumption) lX m1, cellKeep (W := W0) (by assumption) lX m2, cellKeep (W := W0) (by assumption) lX m3, cellKeep (W := W0) (by assumption) lY m4, cellKeep (W := W0) (by assumption) lY m5, cellKeep (W := W0) (by assumption) lY m6, cellKeep (W := W0) (by assumption) lY m7⟩)
    (first
      | (have _ := qv1; go_at_call 48; refine (ZCmp_any sv0 sv1 ov0 ov1 mv0 jv0 mv1 jv1 (P * S) (R * Q) _ (Kv0.ext qv1) Kv1 (by omega) (by omega) k Ek.out).mono ?_; rintro e v2 ⟨rfl, qv2⟩; have hv2 : Ext W0 v2 := hv1.trans qv2)
      | (have _ := qv0; go_at_call 47; refine (ZMul_any b3 b2 a3 a2 n3 c3 n2 c2 R Q _ (IC.ext hv0) (IB.ext hv0) (by omega) (by omega)).mono ?_; rintro e v1 ⟨sv1, ov1, mv1, jv1, rfl, Kv1, Lv1, qv1⟩; have hv1 : Ext W0 v1 := hv0.trans qv1)
      | (go_at_call 47; refine (ZMul_any b1 b4 a1 a4 n1 c1 n4 c4 P S _ (IA.ext (by assumption)) (ID.ext (by assumption)) (by omega) (by omega)).mono ?_; rintro e v0 ⟨sv0, ov0, mv0, jv0, rfl, Kv0, Lv0, qv0⟩; have hv0 : Ext W0 v0 := Ext.trans (by assumption) qv0))
  go_wp2_with fail
  go_ret
  exact ⟨rfl, hE.trans hv2⟩


set_option maxHeartbeats 4000000 in
set_option maxRecDepth 100000 in
theorem FAdd_any (b1 : Bool) (a1 : Option Addr) (n1 c1 : Nat) (b2 : Bool) (a2 : Option Addr) (n2 c2 : Nat) (b3 : Bool) (a3 : Option Addr) (n3 c3 : Nat) (b4 : Bool) (a4 : Option Addr) (n4 c4 : Nat) (P Q R S : Int) (w : World) (h1 : IsZ w b1 a1 n1 c1 P) (h2 : IsZ w b2 a2 n2 c2 Q) (h3 : IsZ w b3 a3 n3 c3 R) (h4 : IsZ w b4 a4 n4 c4 S) (hn1 : n1 ≤ 40000) (hn2 : n2 ≤ 40000) (hn3 : n3 ≤ 40000) (hn4 : n4 ≤ 40000) :
    Calls Tryz.prog 18 #[.agg #[.bool b1, .slice a1 n1 c1, .bool b2, .slice a2 n2 c2], .agg #[.bool b3, .slice a3 n3 c3, .bool b4, .slice a4 n4 c4]] w (FRet w (nfp (P * S + R * Q) (Q * S)) (nfq (P * S + R * Q) (Q * S)) 100006) := by
  have hE : Ext w (((w.alloc (.cells #[.bool b1, .slice a1 n1 c1, .bool b2, .slice a2 n2 c2] 35)).alloc (.cells #[.bool b3, .slice a3 n3 c3, .bool b4, .slice a4 n4 c4] 35)).alloc (.cells #[.bool false, .slice none 0 0, .bool false, .slice none 0 0] 35)) := ((ext_alloc w (.cells #[.bool b1, .slice a1 n1 c1, .bool b2, .slice a2 n2 c2] 35)).trans (ext_alloc _ (.cells #[.bool b3, .slice a3 n3 c3, .bool b4, .slice a4 n4 c4] 35))).trans (ext_alloc _ (.cells #[.bool false, .slice none 0 0, .bool false, .slice none 0 0] 35))
  have bX := (fzbx_new w b1 a1 n1 c1 b2 a2 n2 c2).ext (ext_alloc _ (.cells #[.bool b3, .slice a3 n3 c3, .bool b4, .slice a4 n4 c4] 35))
  have bY := fzbx_new (w.alloc (.cells #[.bool b1, .slice a1 n1 c1, .bool b2, .slice a2 n2 c2] 35)) b3 a3 n3 c3 b4 a4 n4 c4
  rw [show (w.alloc (.cells #[.bool b1, .slice a1 n1 c1, .bool b2, .slice a2 n2 c2] 35)).heap.size = w.heap.size + 1 from by simp] at bY
  have bX := bX.ext (ext_alloc _ (.cells #[.bool false, .slice none 0 0, .bool false, .slice none 0 0] 35)); have bY := bY.ext (ext_alloc _ (.cells #[.bool false, .slice none 0 0, .bool false, .slice none 0 0] 35))
  have bR := fzbx_new ((w.alloc (.cells #[.bool b1, .slice a1 n1 c1, .bool b2, .slice a2 n2 c2] 35)).alloc (.cells #[.bool b3, .slice a3 n3 c3, .bool b4, .slice a4 n4 c4] 35)) false none 0 0 false none 0 0
  rw [show ((w.alloc (.cells #[.bool b1, .slice a1 n1 c1, .bool b2, .slice a2 n2 c2] 35)).alloc (.cells #[.bool b3, .slice a3 n3 c3, .bool b4, .slice a4 n4 c4] 35)).heap.size = w.heap.size + 1 + 1 from by simp] at bR
  have IA := h1.ext hE; have IB := h2.ext hE; have IC := h3.ext hE; have ID := h4.ext hE
  clear h1 h2 h3 h4
  go_enter Tryz.func18, Tryz.ntmps18
  go_wp2_with fail
  generalize ((w.alloc (.cells #[.bool b1, .slice a1 n1 c1, .bool b2, .slice a2 n2 c2] 35)).alloc (.cells #[.bool b3, .slice a3 n3 c3, .bool b4, .slice a4 n4 c4] 35)).alloc (.cells #[.bool false, .slice none 0 0, .bool false, .slice none 0 0] 35) = W0 at *
  have m0 := bX.c0; have m1 := bX.c1; have m2 := bX.c2; have m3 := bX.c3; have m4 := bY.c0; have m5 := bY.c1; have m6 := bY.c2; have m7 := bY.c3
  have lX := bX.lt; have lY := bY.lt
  have h0d : Ext W0 W0.drew := Below.drew (Ext.refl _)
  go_region_held3 (fun w' => w'.cell? ⟨w.heap.size, 0, none⟩ = some (.bool b1) ∧ w'.cell? ⟨w.heap.size, 1, none⟩ = some (.slice a1 n1 c1) ∧ w'.cell? ⟨w.heap.size, 2, none⟩ = some (.bool b2) ∧ w'.cell? ⟨w.heap.size, 3, none⟩ = some (.slice a2 n2 c2) ∧ w'.cell? ⟨w.heap.size + 1, 0, none⟩ = some (.bool b3) ∧ w'.cell? ⟨w.heap.size + 1, 1, none⟩ = some (.slice a3 n3 c3) ∧ w'.cell? ⟨w.heap.size + 1, 2, none⟩ = some (.bool b4) ∧ w'.cell? ⟨w.heap.size + 1, 3, none⟩ = some (.slice a4 n4 c4))
    (exact ⟨by (repeat (refine cellPut (by omega) ?_)); exact cellKeep (W := W0) (by assumption) lX m0, by (repeat (refine cellPut (by omega) ?_)); exact cellKeep (W := W0) (by assumption) lX m1, by (repeat (refine cellPut (by omega) ?_)); exact cellKeep (W := W0) (by assumption) lX m2, by (repeat (refine cellPut (by omega) ?_)); exact cellKeep (W := W0) (by assumption) lX m3, by (repeat (refine cellPut (by omega) ?_)); exact cellKeep (W := W0) (by assumption) lY m4, by (repeat (refine cellPut (by omega) ?_)); exact cellKeep (W := W0) (by assumption) lY m5, by (repeat (refine cellPut (by omega) ?_)); exact cellKeep (W := W0) (by assumption) lY m6, by (repeat (refine cellPut (by omega) ?_)); exact cellKeep (W := W0) (by assumption) lY m7⟩)
    (first
      | (have _ := qv3; go_at_call 40; refine (fover_any sv2 sv3 ov2 ov3 mv2 jv2 mv3 jv3 (P * S + R * Q) (Q * S) _ (Kv2.ext qv3) Kv3 (by omega) (by omega)).mono ?_; rintro e v4 ⟨b9, a9, n9, c9, b8, a8, n8, c8, rfl, I9, I8, l9, l8, qv4⟩; have hv4 : Ext W0 v4 := hv3.trans qv4; have R5 := bR.ext hv4; have k0 := R5.c0; have k1 := R5.c1; have k2 := R5.c2; have k3 := R5.c3; have f0 := R5.f 0; have f1 := R5.f 1; have f2 := R5.f 2; have f3 := R5.f 3)
      | (have _ := qv2; go_at_call 47; refine (ZMul_any b2 b4 a2 a4 n2 c2 n4 c4 Q S _ (IB.ext hv2) (ID.ext hv2) (by omega) (by omega)).mono ?_; rintro e v3 ⟨sv3, ov3, mv3, jv3, rfl, Kv3, Lv3, qv3⟩; have hv3 : Ext W0 v3 := hv2.trans qv3)
      | (have _ := qv1; go_at_call 51; refine (ZAdd_any sv0 sv1 ov0 ov1 mv0 jv0 mv1 jv1 (P * S) (R * Q) _ (Kv0.ext qv1) Kv1 (by omega) (by omega)).mono ?_; rintro e v2 ⟨sv2, ov2, mv2, jv2, rfl, Kv2, Lv2, qv2⟩; have hv2 : Ext W0 v2 := hv1.trans qv2)
      | (have _ := qv0; go_at_call 47; refine (ZMul_any b3 b2 a3 a2 n3 c3 n2 c2 R Q _ (IC.ext hv0) (IB.ext hv0) (by omega) (by omega)).mono ?_; rintro e v1 ⟨sv1, ov1, mv1, jv1, rfl, Kv1, Lv1, qv1⟩; have hv1 : Ext W0 v1 := hv0.trans qv1)
      | (go_at_call 47; refine (ZMul_any b1 b4 a1 a4 n1 c1 n4 c4 P S _ (IA.ext (by assumption)) (ID.ext (by assumption)) (by omega) (by omega)).mono ?_; rintro e v0 ⟨sv0, ov0, mv0, jv0, rfl, Kv0, Lv0, qv0⟩; have hv0 : Ext W0 v0 := Ext.trans (by assumption) qv0))
  have HI9 := Lib.hid (I9.put4 R5 (.bool b9) (.slice a9 n9 c9) (.bool b8) (.slice a8 n8 c8)); have HI8 := Lib.hid (I8.put4 R5 (.bool b9) (.slice a9 n9 c9) (.bool b8) (.slice a8 n8 c8))
  clear I9 I8
  go_wp2_with fail
  exact bodyPost_ret (v := .agg #[.bool b9, .slice a9 n9 c9, .bool b8, .slice a8 n8 c8]) (by simp [results, Tryz.results18, go_sem, k0, k1, k2, k3]) rfl ⟨b9, a9, n9, c9, b8, a8, n8, c8, rfl, HI9.out, HI8.out, l9, l8, ((hE.trans hv4).put2 (by omega) _ _).put2 (by omega) _ _⟩


set_option maxHeartbeats 4000000 in
set_option maxRecDepth 100000 in
theorem FSub_any (b1 : Bool) (a1 : Option Addr) (n1 c1 : Nat) (b2 : Bool) (a2 : Option Addr) (n2 c2 : Nat) (b3 : Bool) (a3 : Option Addr) (n3 c3 : Nat) (b4 : Bool) (a4 : Option Addr) (n4 c4 : Nat) (P Q R S : Int) (w : World) (h1 : IsZ w b1 a1 n1 c1 P) (h2 : IsZ w b2 a2 n2 c2 Q) (h3 : IsZ w b3 a3 n3 c3 R) (h4 : IsZ w b4 a4 n4 c4 S) (hn1 : n1 ≤ 40000) (hn2 : n2 ≤ 40000) (hn3 : n3 ≤ 40000) (hn4 : n4 ≤ 40000) :
    Calls Tryz.prog 20 #[.agg #[.bool b1, .slice a1 n1 c1, .bool b2, .slice a2 n2 c2], .agg #[.bool b3, .slice a3 n3 c3, .bool b4, .slice a4 n4 c4]] w (FRet w (nfp (P * S + -R * Q) (Q * S)) (nfq (P * S + -R * Q) (Q * S)) 100006) := by
  have hE : Ext w (((w.alloc (.cells #[.bool b1, .slice a1 n1 c1, .bool b2, .slice a2 n2 c2] 35)).alloc (.cells #[.bool b3, .slice a3 n3 c3, .bool b4, .slice a4 n4 c4] 35)).alloc (.cells #[.bool false, .slice none 0 0, .bool false, .slice none 0 0] 35)) := ((ext_alloc w (.cells #[.bool b1, .slice a1 n1 c1, .bool b2, .slice a2 n2 c2] 35)).trans (ext_alloc _ (.cells #[.bool b3, .slice a3 n3 c3, .bool b4, .slice a4 n4 c4] 35))).trans (ext_alloc _ (.cells #[.bool false, .slice none 0 0, .bool false, .slice none 0 0] 35))
  have bX := (fzbx_new w b1 a1 n1 c1 b2 a2 n2 c2).ext (ext_alloc _ (.cells #[.bool b3, .slice a3 n3 c3, .bool b4, .slice a4 n4 c4] 35))
  have bY := fzbx_new (w.alloc (.cells #[.bool b1, .slice a1 n1 c1, .bool b2, .slice a2 n2 c2] 35)) b3 a3 n3 c3 b4 a4 n4 c4
  rw [show (w.alloc (.cells #[.bool b1, .slice a1 n1 c1, .bool b2, .slice a2 n2 c2] 35)).heap.size = w.heap.size + 1 from by simp] at bY
  have bX := bX.ext (ext_alloc _ (.cells #[.bool false, .slice none 0 0, .bool false, .slice none 0 0] 35)); have bY := bY.ext (ext_alloc _ (.cells #[.bool false, .slice none 0 0, .bool false, .slice none 0 0] 35))
  have bR := fzbx_new ((w.alloc (.cells #[.bool b1, .slice a1 n1 c1, .bool b2, .slice a2 n2 c2] 35)).alloc (.cells #[.bool b3, .slice a3 n3 c3, .bool b4, .slice a4 n4 c4] 35)) false none 0 0 false none 0 0
  rw [show ((w.alloc (.cells #[.bool b1, .slice a1 n1 c1, .bool b2, .slice a2 n2 c2] 35)).alloc (.cells #[.bool b3, .slice a3 n3 c3, .bool b4, .slice a4 n4 c4] 35)).heap.size = w.heap.size + 1 + 1 from by simp] at bR
  have IA := h1.ext hE; have IB := h2.ext hE; have IC := h3.ext hE; have ID := h4.ext hE
  clear h1 h2 h3 h4
  go_enter Tryz.func20, Tryz.ntmps20
  go_wp2_with fail
  generalize ((w.alloc (.cells #[.bool b1, .slice a1 n1 c1, .bool b2, .slice a2 n2 c2] 35)).alloc (.cells #[.bool b3, .slice a3 n3 c3, .bool b4, .slice a4 n4 c4] 35)).alloc (.cells #[.bool false, .slice none 0 0, .bool false, .slice none 0 0] 35) = W0 at *
  have m0 := bX.c0; have m1 := bX.c1; have m2 := bX.c2; have m3 := bX.c3; have m4 := bY.c0; have m5 := bY.c1; have m6 := bY.c2; have m7 := bY.c3
  have lX := bX.lt; have lY := bY.lt
  have h0d : Ext W0 W0.drew := Below.drew (Ext.refl _)
  go_region_held3 (fun w' => w'.cell? ⟨w.heap.size, 0, none⟩ = some (.bool b1) ∧ w'.cell? ⟨w.heap.size, 1, none⟩ = some (.slice a1 n1 c1) ∧ w'.cell? ⟨w.heap.size, 2, none⟩ = some (.bool b2) ∧ w'.cell? ⟨w.heap.size, 3, none⟩ = some (.slice a2 n2 c2) ∧ w'.cell? ⟨w.heap.size + 1, 0, none⟩ = some (.bool b3) ∧ w'.cell? ⟨w.heap.size + 1, 1, none⟩ = some (.slice a3 n3 c3) ∧ w'.cell? ⟨w.heap.size + 1, 2, none⟩ = some (.bool b4) ∧ w'.cell? ⟨w.heap.size + 1, 3, none⟩ = some (.slice a4 n4 c4))
    (exact ⟨by (repeat (refine cellPut (by omega) ?_)); exact cellKeep (W := W0) (by assumption) lX m0, by (repeat (refine cellPut (by omega) ?_)); exact cellKeep (W := W0) (by assumption) lX m1, by (repeat (refine cellPut (by omega) ?_)); exact cellKeep (W := W0) (by assumption) lX m2, by (repeat (refine cellPut (by omega) ?_)); exact cellKeep (W := W0) (by assumption) lX m3, by (repeat (refine cellPut (by omega) ?_)); exact cellKeep (W := W0) (by assumption) lY m4, by (repeat (refine cellPut (by omega) ?_)); exact cellKeep (W := W0) (by assumption) lY m5, by (repeat (refine cellPut (by omega) ?_)); exact cellKeep (W := W0) (by assumption) lY m6, by (repeat (refine cellPut (by omega) ?_)); exact cellKeep (W := W0) (by assumption) lY m7⟩)
    (first
      | (have _ := qv0; go_at_call 18; refine (FAdd_any b1 a1 n1 c1 b2 a2 n2 c2 sv0 ov0 mv0 jv0 b4 a4 n4 c4 P Q (-R) S _ (IA.ext hv0) (IB.ext hv0) Kv0 (ID.ext hv0) hn1 hn2 (by omega) hn4).mono ?_; rintro e v1 ⟨b9, a9, n9, c9, b8, a8, n8, c8, rfl, I9, I8, l9, l8, qv1⟩; have hv1 : Ext W0 v1 := hv0.trans qv1; have R5 := bR.ext hv1; have k0 := R5.c0; have k1 := R5.c1; have k2 := R5.c2; have k3 := R5.c3; have f0 := R5.f 0; have f1 := R5.f 1; have f2 := R5.f 2; have f3 := R5.f 3)
      | (go_at_call 53; refine (ZNeg_any b3 a3 n3 c3 R _ (IC.ext (by assumption)) (by omega)).mono ?_; rintro e v0 ⟨sv0, ov0, mv0, jv0, rfl, Kv0, Lv0, qv0⟩; have hv0 : Ext W0 v0 := Ext.trans (by assumption) qv0))
  have HI9 := Lib.hid (I9.put4 R5 (.bool b9) (.slice a9 n9 c9) (.bool b8) (.slice a8 n8 c8)); have HI8 := Lib.hid (I8.put4 R5 (.bool b9) (.slice a9 n9 c9) (.bool b8) (.slice a8 n8 c8))
  clear I9 I8
  go_wp2_with fail
  exact bodyPost_ret (v := .agg #[.bool b9, .slice a9 n9 c9, .bool b8, .slice a8 n8 c8]) (by simp [results, Tryz.results20, go_sem, k0, k1, k2, k3]) rfl ⟨b9, a9, n9, c9, b8, a8, n8, c8, rfl, HI9.out, HI8.out, l9, l8, ((hE.trans hv1).put2 (by omega) _ _).put2 (by omega) _ _⟩


end Go.Proofs.YtdiojbgbeeojkaaGreatDoor
