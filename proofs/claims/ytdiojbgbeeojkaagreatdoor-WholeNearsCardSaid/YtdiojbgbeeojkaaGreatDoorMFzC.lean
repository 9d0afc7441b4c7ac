/-
  The reference's fractions: FMul, FQuo.
-/
import Derived.Test.YtdiojbgbeeojkaaGreatDoorMFzA
import Derived.Test.YtdiojbgbeeojkaaGreatDoorMFqD
import Derived.Test.YtdiojbgbeeojkaaGreatDoorMZT

namespace Go.Proofs.YtdiojbgbeeojkaaGreatDoor
open Go.RowKit

set_option maxHeartbeats 4000000 in
set_option maxRecDepth 100000 in
theorem FMul_any (b1 : Bool) (a1 : Option Addr) (n1 c1 : Nat) (b2 : Bool) (a2 : Option Addr) (n2 c2 : Nat) (b3 : Bool) (a3 : Option Addr) (n3 c3 : Nat) (b4 : Bool) (a4 : Option Addr) (n4 c4 : Nat) (P Q R S : Int) (w : World) (h1 : IsZ w b1 a1 n1 c1 P) (h2 : IsZ w b2 a2 n2 c2 Q) (h3 : IsZ w b3 a3 n3 c3 R) (h4 : IsZ w b4 a4 n4 c4 S) (hn1 : n1 ≤ 40000) (hn2 : n2 ≤ 40000) (hn3 : n3 ≤ 40000) (hn4 : n4 ≤ 40000) :
    Calls Tryz.prog 22 #[.agg #[.bool b1, .slice a1 n1 c1, .bool b2, .slice a2 n2 c2], .agg #[.bool b3, .slice a3 n3 c3, .bool b4, .slice a4 n4 c4]] w (FRet w (nfp (P * R) (Q * S)) (nfq (P * R) (Q * S)) 100006) := by
  have hE : Ext w (((w.alloc (.cells #[.bool b1, .slice a1 n1 c1, .bool b2, .slice a2 n2 c2] 35)).alloc (.cells #[.bool b3, .slice a3 n3 c3, .bool b4, .slice a4 n4 c4] 35)).alloc (.cells #[.bool false, .slice none 0 0, .bool false, .slice none 0 0] 35)) := ((ext_alloc w (.cells #[.bool b1, .slice a1 n1 c1, .bool b2, .slice a2 n2 c2] 35)).trans (ext_alloc _ (.cells #[.bool b3, .slice a3 n3 c3, .bool b4, .slice a4 n4 c4] 35))).trans (ext_alloc _ (.cells #[.bool false, .slice none 0 0, .bool false, .slice none 0 0] 35))
  have bX := (fzbx_new w b1 a1 n1 c1 b2 a2 n2 c2).ext (ext_alloc _ (.cells #[.bool b3, .slice a3 n3 c3, .bool b4, .slice a4 n4 c4] 35))
  have bY := fzbx_new (w.alloc (.cells #[.bool b1, .slice a1 n1 c1, .bool b2, .slice a2 n2 c2] 35)) b3 a3 n3 c3 b4 a4 n4 c4
  rw [show (w.alloc (.cells #[.bool b1, .slice a1 n1 c1, .bool b2, .slice a2 n2 c2] 35)).heap.size = w.heap.size + 1 from by simp] at bY
  have bX := bX.ext (ext_alloc _ (.cells #[.bool false, .slice none 0 0, .bool false, .slice none 0 0] 35)); have bY := bY.ext (ext_alloc _ (.cells #[.bool false, .slice none 0 0, .bool false, .slice none 0 0] 35))
  have bR := fzbx_new ((w.alloc (.cells #[.bool b1, .slice a1 n1 c1, .bool b2, .slice a2 n2 c2] 35)).alloc (.cells #[.bool b3, .slice a3 n3 c3, .bool b4, .slice a4 n4 c4] 35)) false none 0 0 false none 0 0
  rw [show ((w.alloc (.cells #[.bool b1, .slice a1 n1 c1, .bool b2, .slice a2 n2 c2] 35)).alloc (.cells #[.bool b3, .slice a3 n3 c3, .bool b4, .slice a4 n4 c4] 35)).heap.size = w.heap.size + 1 + 1 from by simp] at bR
  have IA := h1.ext hE; have IB := h2.ext hE; have IC := h3.ext hE; have ID := h4.ext hE
  clear h1 h2 h3 h4
  go_enter Tryz.func22, Tryz.ntmps22
  go_wp2_with fail
  generalize ((w.alloc (.cells #[.bool b1, .slice a1 n1 c1, .bool b2, .slice a2 n2 c2] 35)).alloc (.cells #[.bool b3, .slice a3 n3 c3, .bool b4, .slice a4 n4 c4] 35)).alloc (.cells #[.bool false, .slice none 0 0, .bool false, .slice none 0 0] 35) = W0 at *
  have m0 := bX.c0; have m1 := bX.c1; have m2 := bX.c2; have m3 := bX.c3; have m4 := bY.c0; have m5 := bY.c1; have m6 := bY.c2; have m7 := bY.c3
  have lX := bX.lt; have lY := bY.lt
  have h0d : Ext W0 W0.drew := Below.drew (Ext.refl _)
  go_region_held3 (fun w' => w'.cell? ⟨w.heap.size, 0, none⟩ = some (.bool b1) ∧ w'.cell? ⟨w.heap.size, 1, none⟩ = some (.slice a1 n1 c1) ∧ w'.cell? ⟨w.heap.size, 2, none⟩ = some (.bool b2) ∧ w'.cell? ⟨w.heap.size, 3, none⟩ = some (.slice a2 n2 c2) ∧ w'.cell? ⟨w.heap.size + 1, 0, none⟩ = some (.bool b3) ∧ w'.cell? ⟨w.heap.size + 1, 1, none⟩ = some (.slice a3 n3 c3) ∧ w'.cell? ⟨w.heap.size + 1, 2, none⟩ = some (.bool b4) ∧ w'.cell? ⟨w.heap.size + 1, 3, none⟩ = some (.slice a4 n4 c4))
    (exact ⟨by (repeat (refine cellPut (by omega) ?_)); exact cellKeep (W := W0) (by assumption) lX m0, by (repeat (refine cellPut (by omega) ?_)); exact cellKeep (W := W0) (by assumption) lX m1, by (repeat (refine cellPut (by omega) ?_)); exact cellKeep (W := W0) (by assumption) lX m2, by (repeat (refine cellPut (by omega) ?_)); exact cellKeep (W := W0) (by assumption) lX m3, by (repeat (refine cellPut (by omega) ?_)); exact cellKeep (W := W0) (by assumption) lY m4, by (repeat (refine cellPut (by omega) ?_)); exact cellKeep (W := W0) (by assumption) lY m5, by (repeat (refine cellPut (by omega) ?_)); exact cellKeep (W := W0) (by assumption) lY m6, by (repeat (refine cellPut (by omega) ?_)); exact cellKeep (W := W0) (by assumption) lY m7⟩)
    (first
      | (have _ := qv1; go_at_call 40; refine (fover_any sv0 sv1 ov0 ov1 mv0 jv0 mv1 jv1 (P * R) (Q * S) _ (Kv0.ext qv1) Kv1 (by omega) (by omega)).mono ?_; rintro e v2 ⟨b9, a9, n9, c9, b8, a8, n8, c8, rfl, I9, I8, l9, l8, qv2⟩; have hv2 : Ext W0 v2 := hv1.trans qv2; have R5 := bR.ext hv2; have k0 := R5.c0; have k1 := R5.c1; have k2 := R5.c2; have k3 := R5.c3; have f0 := R5.f 0; have f1 := R5.f 1; have f2 := R5.f 2; have f3 := R5.f 3)
      | (have _ := qv0; go_at_call 47; refine (ZMul_any b2 b4 a2 a4 n2 c2 n4 c4 Q S _ (IB.ext hv0) (ID.ext hv0) (by omega) (by omega)).mono ?_; rintro e v1 ⟨sv1, ov1, mv1, jv1, rfl, Kv1, Lv1, qv1⟩; have hv1 : Ext W0 v1 := hv0.trans qv1)
      | (go_at_call 47; refine (ZMul_any b1 b3 a1 a3 n1 c1 n3 c3 P R _ (IA.ext (by assumption)) (IC.ext (by assumption)) (by omega) (by omega)).mono ?_; rintro e v0 ⟨sv0, ov0, mv0, jv0, rfl, Kv0, Lv0, qv0⟩; have hv0 : Ext W0 v0 := Ext.trans (by assumption) qv0))
  have HI9 := Lib.hid (I9.put4 R5 (.bool b9) (.slice a9 n9 c9) (.bool b8) (.slice a8 n8 c8)); have HI8 := Lib.hid (I8.put4 R5 (.bool b9) (.slice a9 n9 c9) (.bool b8) (.slice a8 n8 c8))
  clear I9 I8
  go_wp2_with fail
  exact bodyPost_ret (v := .agg #[.bool b9, .slice a9 n9 c9, .bool b8, .slice a8 n8 c8]) (by simp [results, Tryz.results22, go_sem, k0, k1, k2, k3]) rfl ⟨b9, a9, n9, c9, b8, a8, n8, c8, rfl, HI9.out, HI8.out, l9, l8, ((hE.trans hv2).put2 (by omega) _ _).put2 (by omega) _ _⟩


set_option maxHeartbeats 4000000 in
set_option maxRecDepth 100000 in
theorem FQuo_any (b1 : Bool) (a1 : Option Addr) (n1 c1 : Nat) (b2 : Bool) (a2 : Option Addr) (n2 c2 : Nat) (b3 : Bool) (a3 : Option Addr) (n3 c3 : Nat) (b4 : Bool) (a4 : Option Addr) (n4 c4 : Nat) (P Q R S : Int) (w : World) (h1 : IsZ w b1 a1 n1 c1 P) (h2 : IsZ w b2 a2 n2 c2 Q) (h3 : IsZ w b3 a3 n3 c3 R) (h4 : IsZ w b4 a4 n4 c4 S) (hn1 : n1 ≤ 40000) (hn2 : n2 ≤ 40000) (hn3 : n3 ≤ 40000) (hn4 : n4 ≤ 40000) :
    Calls Tryz.prog 14 #[.agg #[.bool b1, .slice a1 n1 c1, .bool b2, .slice a2 n2 c2], .agg #[.bool b3, .slice a3 n3 c3, .bool b4, .slice a4 n4 c4]] w (FRetF w (nfp (P * S) (Q * R)) (nfq (P * S) (Q * R)) (ovc (Q * R)) 100006) := by
  obtain ⟨oc, ho⟩ : ∃ oc, ovc (Q * R) = oc := ⟨_, rfl⟩
  rw [ho]
  have Ho := Lib.hid ho
  clear ho
  have hE : Ext w ((((w.alloc (.cells #[.bool b1, .slice a1 n1 c1, .bool b2, .slice a2 n2 c2] 35)).alloc (.cells #[.bool b3, .slice a3 n3 c3, .bool b4, .slice a4 n4 c4] 35)).alloc (.cells #[.bool false, .slice none 0 0, .bool false, .slice none 0 0] 35)).alloc (.cells #[.int .i64 0, .int .i64 0] 28)) := (((ext_alloc w (.cells #[.bool b1, .slice a1 n1 c1, .bool b2, .slice a2 n2 c2] 35)).trans (ext_alloc _ (.cells #[.bool b3, .slice a3 n3 c3, .bool b4, .slice a4 n4 c4] 35))).trans (ext_alloc _ (.cells #[.bool false, .slice none 0 0, .bool false, .slice none 0 0] 35))).trans (ext_alloc _ (.cells #[.int .i64 0, .int .i64 0] 28))
  have bX := (fzbx_new w b1 a1 n1 c1 b2 a2 n2 c2).ext (ext_alloc _ (.cells #[.bool b3, .slice a3 n3 c3, .bool b4, .slice a4 n4 c4] 35))
  have bY := fzbx_new (w.alloc (.cells #[.bool b1, .slice a1 n1 c1, .bool b2, .slice a2 n2 c2] 35)) b3 a3 n3 c3 b4 a4 n4 c4
  rw [show (w.alloc (.cells #[.bool b1, .slice a1 n1 c1, .bool b2, .slice a2 n2 c2] 35)).heap.size = w.heap.size + 1 from by simp] at bY
  have bX := bX.ext (ext_alloc _ (.cells #[.bool false, .slice none 0 0, .bool false, .slice none 0 0] 35)); have bY := bY.ext (ext_alloc _ (.cells #[.bool false, .slice none 0 0, .bool false, .slice none 0 0] 35))
  have bX := bX.ext (ext_alloc _ (.cells #[.int .i64 0, .int .i64 0] 28)); have bY := bY.ext (ext_alloc _ (.cells #[.int .i64 0, .int .i64 0] 28))
  have bR := fzbx_new ((w.alloc (.cells #[.bool b1, .slice a1 n1 c1, .bool b2, .slice a2 n2 c2] 35)).alloc (.cells #[.bool b3, .slice a3 n3 c3, .bool b4, .slice a4 n4 c4] 35)) false none 0 0 false none 0 0
  rw [show ((w.alloc (.cells #[.bool b1, .slice a1 n1 c1, .bool b2, .slice a2 n2 c2] 35)).alloc (.cells #[.bool b3, .slice a3 n3 c3, .bool b4, .slice a4 n4 c4] 35)).heap.size = w.heap.size + 1 + 1 from by simp] at bR
  have bR := bR.ext (ext_alloc _ (.cells #[.int .i64 0, .int .i64 0] 28))
  have bF : FRes ((((w.alloc (.cells #[.bool b1, .slice a1 n1 c1, .bool b2, .slice a2 n2 c2] 35)).alloc (.cells #[.bool b3, .slice a3 n3 c3, .bool b4, .slice a4 n4 c4] 35)).alloc (.cells #[.bool false, .slice none 0 0, .bool false, .slice none 0 0] 35)).alloc (.cells #[.int .i64 0, .int .i64 0] 28)) (w.heap.size + 1 + 1 + 1) := by
    have := heap_alloc_new (((w.alloc (.cells #[.bool b1, .slice a1 n1 c1, .bool b2, .slice a2 n2 c2] 35)).alloc (.cells #[.bool b3, .slice a3 n3 c3, .bool b4, .slice a4 n4 c4] 35)).alloc (.cells #[.bool false, .slice none 0 0, .bool false, .slice none 0 0] 35)) (.cells #[.int .i64 0, .int .i64 0] 28)
    exact ⟨by simp, by simpa using this⟩
  have IA := h1.ext hE; have IB := h2.ext hE; have IC := h3.ext hE; have ID := h4.ext hE
  clear h1 h2 h3 h4
  go_enter Tryz.func14, Tryz.ntmps14
  go_wp2_with fail
  generalize (((w.alloc (.cells #[.bool b1, .slice a1 n1 c1, .bool b2, .slice a2 n2 c2] 35)).alloc (.cells #[.bool b3, .slice a3 n3 c3, .bool b4, .slice a4 n4 c4] 35)).alloc (.cells #[.bool false, .slice none 0 0, .bool false, .slice none 0 0] 35)).alloc (.cells #[.int .i64 0, .int .i64 0] 28) = W0 at *
  have m0 := bX.c0; have m1 := bX.c1; have m2 := bX.c2; have m3 := bX.c3; have m4 := bY.c0; have m5 := bY.c1; have m6 := bY.c2; have m7 := bY.c3
  have lX := bX.lt; have lY := bY.lt
  have h0d : Ext W0 W0.drew := Below.drew (Ext.refl _)
  go_region_held3 (fun w' => w'.cell? ⟨w.heap.size, 0, none⟩ = some (.bool b1) ∧ w'.cell? ⟨w.heap.size, 1, none⟩ = some (.slice a1 n1 c1) ∧ w'.cell? ⟨w.heap.size, 2, none⟩ = some (.bool b2) ∧ w'.cell? ⟨w.heap.size, 3, none⟩ = some (.slice a2 n2 c2) ∧ w'.cell? ⟨w.heap.size + 1, 0, none⟩ = some (.bool b3) ∧ w'.cell? ⟨w.heap.size + 1, 1, none⟩ = some (.slice a3 n3 c3) ∧ w'.cell? ⟨w.heap.size + 1, 2, none⟩ = some (.bool b4) ∧ w'.cell? ⟨w.heap.size + 1, 3, none⟩ = some (.slice a4 n4 c4))
    (exact ⟨by (repeat (refine cellPut (by omega) ?_)); exact cellKeep (W := W0) (by assumption) lX m0, by (repeat (refine cellPut (by omega) ?_)); exact cellKeep (W := W0) (by assumption) lX m1, by (repeat (refine cellPut (by omega) ?_)); exact cellKeep (W := W0) (by assumption) lX m2, by (repeat (refine cellPut (by omega) ?_)); exact cellKeep (W := W0) (by assumption) lX m3, by (repeat (refine cellPut (by omega) ?_)); exact cellKeep (W := W0) (by assumption) lY m4, by (repeat (refine cellPut (by omega) ?_)); exact cellKeep (W := W0) (by assumption) lY m5, by (repeat (refine cellPut (by omega) ?_)); exact cellKeep (W := W0) (by assumption) lY m6, by (repeat (refine cellPut (by omega) ?_)); exact cellKeep (W := W0) (by assumption) lY m7⟩)
    (first
      | (have _ := qv1; go_at_call 26; refine (FOver_any sv0 sv1 ov0 ov1 mv0 jv0 mv1 jv1 (P * S) (Q * R) _ (Kv0.ext qv1) Kv1 (by omega) (by omega)).mono ?_; rw [Ho.out]; rintro e v2 ⟨b9, a9, n9, c9, b8, a8, n8, c8, rfl, I9, I8, l9, l8, qv2⟩; have hv2 : Ext W0 v2 := hv1.trans qv2; have R5 := bR.ext hv2; have k0 := R5.c0; have k1 := R5.c1; have k2 := R5.c2; have k3 := R5.c3; have f0 := R5.f 0; have f1 := R5.f 1; have f2 := R5.f 2; have f3 := R5.f 3; have F5 := bF.ext hv2; have k4 := F5.c0; have k5 := F5.c1; have f4 := F5.f0; have f5 := F5.f1)
      | (have _ := qv0; go_at_call 47; refine (ZMul_any b2 b3 a2 a3 n2 c2 n3 c3 Q R _ (IB.ext hv0) (IC.ext hv0) (by omega) (by omega)).mono ?_; rintro e v1 ⟨sv1, ov1, mv1, jv1, rfl, Kv1, Lv1, qv1⟩; have hv1 : Ext W0 v1 := hv0.trans qv1)
      | (go_at_call 47; refine (ZMul_any b1 b4 a1 a4 n1 c1 n4 c4 P S _ (IA.ext (by assumption)) (ID.ext (by assumption)) (by omega) (by omega)).mono ?_; rintro e v0 ⟨sv0, ov0, mv0, jv0, rfl, Kv0, Lv0, qv0⟩; have hv0 : Ext W0 v0 := Ext.trans (by assumption) qv0))
  have HI9 := Lib.hid (I9.put6 R5 F5 (by omega) (.bool b9) (.slice a9 n9 c9) (.bool b8) (.slice a8 n8 c8) (.int .i64 oc) (.int .i64 0)); have HI8 := Lib.hid (I8.put6 R5 F5 (by omega) (.bool b9) (.slice a9 n9 c9) (.bool b8) (.slice a8 n8 c8) (.int .i64 oc) (.int .i64 0))
  clear I9 I8
  go_wp2_with fail
  exact bodyPost_ret (v := .tuple #[.agg #[.bool b9, .slice a9 n9 c9, .bool b8, .slice a8 n8 c8], .agg #[.int .i64 oc, .int .i64 0]]) (by simp [results, Tryz.results14, go_sem, k0, k1, k2, k3, k4, k5]) rfl ⟨b9, a9, n9, c9, b8, a8, n8, c8, rfl, HI9.out, HI8.out, l9, l8, (((hE.trans hv2).put2 (by omega) _ _).put2 (by omega) _ _).put2 (by omega) _ _⟩


end Go.Proofs.YtdiojbgbeeojkaaGreatDoor

/-
  The reference's fractions: FText.
-/
namespace Go.Proofs.YtdiojbgbeeojkaaGreatDoor
open Go.RowKit

set_option maxHeartbeats 2000000 in
set_option maxRecDepth 100000 in
theorem FText_any (b1 : Bool) (a1 : Option Addr) (n1 c1 : Nat) (b2 : Bool) (a2 : Option Addr) (n2 c2 : Nat) (P Q : Int) (w : World) (h1 : IsZ w b1 a1 n1 c1 P) (h2 : IsZ w b2 a2 n2 c2 Q) (hn1 : n1 ≤ 200000) (hn2 : n2 ≤ 200000) (K : Nat) (hK : K ≤ 100000) (hK1 : 1 ≤ K) (fP : Fit K P) (fQ : Fit K Q) :
    Calls Tryz.prog 9 #[.agg #[.bool b1, .slice a1 n1 c1, .bool b2, .slice a2 n2 c2]] w fun e w' => e = .returned (.string (ftx P Q)) ∧ Ext w w' := by
  have hE : Ext w (w.alloc (.cells #[.bool b1, .slice a1 n1 c1, .bool b2, .slice a2 n2 c2] 35)) := ext_alloc w (.cells #[.bool b1, .slice a1 n1 c1, .bool b2, .slice a2 n2 c2] 35)
  have bX := fzbx_new w b1 a1 n1 c1 b2 a2 n2 c2
  have IA := h1.ext hE; have IB := h2.ext hE
  have hs1 := itoa_len hK1 fP; have hs2 := itoa_len hK1 fQ
  have ht1 : ¬ 9223372036854775807 < (Lib.itoa P).length + 1 := by omega
  have ht2 : ¬ 9223372036854775807 < (Lib.itoa P).length + 1 + (Lib.itoa Q).length := by omega
  clear h1 h2 hs1 hs2 fP fQ
  by_cases hq : Q = 1
  · have Hft : Hid (ftx P Q = ⟨(Lib.itoa P).toArray⟩) := by show _ = _; unfold ftx; rw [if_pos hq]
    have ho : Lib.itoa Q = [49] := by rw [hq]; exact one_text
    clear hq
    go_enter Tryz.func9, Tryz.ntmps9
    go_wp2_with fail
    generalize w.alloc (.cells #[.bool b1, .slice a1 n1 c1, .bool b2, .slice a2 n2 c2] 35) = W0 at *
    refine (ZText_any b2 a2 n2 c2 Q W0 IB (by omega)).mono ?_
    rw [ho]
    rintro e v0 ⟨rfl, hx0⟩
    have d0 := zKeep hx0 bX.lt bX.c0; have d1 := zKeep hx0 bX.lt bX.c1
    go_wp2_with fail
    refine (ZText_any b1 a1 n1 c1 P v0 (IA.ext hx0) (by omega)).mono ?_
    rintro e v1 ⟨rfl, hx1⟩
    go_wp2_with fail
    go_ret
    exact ⟨by show _ = _; rw [Hft.out]; rfl, hE.trans (hx0.trans hx1)⟩
  · have Hft : Hid (ftx P Q = ⟨(Lib.itoa P).toArray⟩ ++ ⟨#[47]⟩ ++ ⟨(Lib.itoa Q).toArray⟩) := by show _ = _; unfold ftx; rw [if_neg hq]
    have hne : ((Lib.itoa Q) == [49]) = false := by
      rw [beq_eq_false_iff_ne]
      intro h0
      have h2 := txt_val Q
      have h3 := txt_val 1
      unfold txt at h2 h3
      rw [show Lib.itoa 1 = [49] from one_text] at h3
      rw [h0] at h2
      exact hq (h2.symm.trans h3)
    clear hq
    go_enter Tryz.func9, Tryz.ntmps9
    go_wp2_with fail
    generalize w.alloc (.cells #[.bool b1, .slice a1 n1 c1, .bool b2, .slice a2 n2 c2] 35) = W0 at *
    refine (ZText_any b2 a2 n2 c2 Q W0 IB (by omega)).mono ?_
    rintro e v0 ⟨rfl, hx0⟩
    have bX := bX.ext hx0; have IA := IA.ext hx0; have IB := IB.ext hx0
    have m0 := bX.c0; have m1 := bX.c1; have m2 := bX.c2; have m3 := bX.c3; have lX := bX.lt
    have h0d : Ext v0 v0.drew := Below.drew (Ext.refl _)
    go_wp2_with fail
    go_region_held3 (fun w' => w'.cell? ⟨w.heap.size, 0, none⟩ = some (.bool b1) ∧ w'.cell? ⟨w.heap.size, 1, none⟩ = some (.slice a1 n1 c1) ∧ w'.cell? ⟨w.heap.size, 2, none⟩ = some (.bool b2) ∧ w'.cell? ⟨w.heap.size, 3, none⟩ = some (.slice a2 n2 c2))
      (exact ⟨cellKeep (W := v0) (by assumption) lX m0, cellKeep (W := v0) (by assumption) lX m1, cellKeep (W := v0) (by assumption) lX m2, cellKeep (W := v0) (by assumption) lX m3⟩)
      (first
        | (have _ := qr0; go_at_call 12; refine (ZText_any b2 a2 n2 c2 Q _ (IB.ext hr0) (by omega)).mono ?_; rintro e r1 ⟨rfl, qr1⟩; have hr1 : Ext v0 r1 := hr0.trans qr1)
        | (go_at_call 12; refine (ZText_any b1 a1 n1 c1 P _ (IA.ext (by assumption)) (by omega)).mono ?_; rintro e r0 ⟨rfl, qr0⟩; have hr0 : Ext v0 r0 := Ext.trans (by assumption) qr0))
    go_wp2_with fail
    go_ret
    exact ⟨by show _ = _; rw [Hft.out]; rfl, hE.trans (hx0.trans hr1)⟩

end Go.Proofs.YtdiojbgbeeojkaaGreatDoor
