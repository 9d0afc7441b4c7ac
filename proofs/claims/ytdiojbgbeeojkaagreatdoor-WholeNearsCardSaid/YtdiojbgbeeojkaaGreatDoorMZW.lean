/-
  The reference's numbers: ZGcd.
-/
import Derived.Test.YtdiojbgbeeojkaaGreatDoorMZV
import Derived.BigRegion

namespace Go.Proofs.YtdiojbgbeeojkaaGreatDoor
open Go.RowKit

/-- The size of the number that a variable holds, as memory tells it. -/
def zAt (w : World) (g : Nat) : Nat :=
  match w.cell? ⟨g, 1, none⟩ with
  | some (.slice (some a) n _) => zval ((List.range n).map fun t => match w.cell? ⟨a.block, a.off + t, none⟩ with
    | some (.int _ x) => x.toNat
    | _ => 0)
  | _ => 0
theorem zAt_of {w : World} {g : Nat} {b : Bool} {a : Option Addr} {n c : Nat} {z : Int} (hb : ZBx w g b a n c) (h : IsZ w b a n c z) : zAt w g = z.natAbs := by
  obtain ⟨l, p1, p2, p3, p4, p5, p6, p7, p8, p9⟩ := h.abs
  unfold zAt
  rw [hb.c1, p7]
  rcases p4 with ⟨rfl, rfl⟩ | ⟨b', o, rfl, hlt, hc⟩
  · rfl
  · show zval _ = zval l
    congr 1
    apply List.ext_getElem
    · rw [List.length_map, List.length_range, p1]
    · intro t h1 h2
      rw [List.getElem_map, List.getElem_range, hc t h2]
      show Int.toNat _ = _
      rw [List.getD_eq_getElem?_getD, List.getElem?_eq_getElem h2]
      rfl

theorem gcd_rest {z1 z2 q r : Int} (h : z1 = q * z2 + r) : Nat.gcd z2.natAbs r.natAbs = Nat.gcd z1.natAbs z2.natAbs := by
  have h1 : Int.gcd z1 z2 = Int.gcd z2 r := by
    rw [h, Int.gcd_comm, Int.gcd_mul_right_add_right]
  exact h1.symm

theorem ZRes.putR {wr : World} {Rb g : Nat} (hz : ZRes wr g) (hne : g ≠ Rb) (u v : Value) : ZRes ((wr.setCell ⟨Rb, 0, none⟩ u).setCell ⟨Rb, 1, none⟩ v) g := by
  have hO : Only Rb wr ((wr.setCell ⟨Rb, 0, none⟩ u).setCell ⟨Rb, 1, none⟩ v) := ((Only.refl _ _).setCell _ _).setCell _ _
  exact ⟨(hO.block _ hne).trans hz.row⟩

set_option maxHeartbeats 2000000 in
set_option maxRecDepth 100000 in
theorem ZGcd_any (b1 b2 : Bool) (a1 a2 : Option Addr) (n1 c1 n2 c2 : Nat) (z1 z2 : Int) (w : World) (h1 : IsZ w b1 a1 n1 c1 z1) (h2 : IsZ w b2 a2 n2 c2 z2) (hn1 : n1 ≤ 300000) (hn2 : n2 ≤ 300000) :
    Calls Tryz.prog 55 #[.agg #[.bool b1, .slice a1 n1 c1], .agg #[.bool b2, .slice a2 n2 c2]] w (ZRet w ((Nat.gcd z1.natAbs z2.natAbs : Nat) : Int) 300000) := by
  have hE := ((ext_alloc w (.cells #[.bool b1, .slice a1 n1 c1] 33)).trans (ext_alloc _ (.cells #[.bool b2, .slice a2 n2 c2] 33))).trans (ext_alloc _ (.cells #[.bool false, .slice none 0 0] 33))
  have bA := ((zbx_new w b1 a1 n1 c1).ext (ext_alloc _ (.cells #[.bool b2, .slice a2 n2 c2] 33))).ext (ext_alloc _ (.cells #[.bool false, .slice none 0 0] 33))
  have bB := (zbx_new (w.alloc (.cells #[.bool b1, .slice a1 n1 c1] 33)) b2 a2 n2 c2).ext (ext_alloc _ (.cells #[.bool false, .slice none 0 0] 33))
  have hR := zres_new ((w.alloc (.cells #[.bool b1, .slice a1 n1 c1] 33)).alloc (.cells #[.bool b2, .slice a2 n2 c2] 33))
  rw [show (w.alloc (.cells #[.bool b1, .slice a1 n1 c1] 33)).heap.size = w.heap.size + 1 from by simp] at bB
  rw [show ((w.alloc (.cells #[.bool b1, .slice a1 n1 c1] 33)).alloc (.cells #[.bool b2, .slice a2 n2 c2] 33)).heap.size = w.heap.size + 1 + 1 from by simp] at hR
  have I1 := h1.ext hE; have I2 := h2.ext hE
  obtain ⟨gg, hgg⟩ : ∃ gg, Nat.gcd z1.natAbs z2.natAbs = gg := ⟨_, rfl⟩
  rw [hgg]
  have Hgg := Lib.hid hgg
  clear h1 h2 hgg
  go_enter Tryz.func55, Tryz.ntmps55
  go_wp2_with fail
  generalize ((w.alloc (.cells #[.bool b1, .slice a1 n1 c1] 33)).alloc (.cells #[.bool b2, .slice a2 n2 c2] 33)).alloc (.cells #[.bool false, .slice none 0 0] 33) = W0 at *
  go_loopw [5] (fun _ wr => ∃ (b : Bool) (a : Option Addr) (n c : Nat) (x : Int) (b' : Bool) (a' : Option Addr) (n' c' : Nat) (y : Int), ZBx wr w.heap.size b a n c ∧ IsZ wr b a n c x ∧ ZBx wr (w.heap.size + 1) b' a' n' c' ∧ IsZ wr b' a' n' c' y ∧ Nat.gcd x.natAbs y.natAbs = gg ∧ n ≤ 300000 ∧ n' ≤ 300000 ∧ ZRes wr (w.heap.size + 1 + 1) ∧ Ext w wr) (fun _ wr => zAt wr (w.heap.size + 1))
  case atStart => exact ⟨b1, a1, n1, c1, z1, b2, a2, n2, c2, z2, bA, I1, bB, I2, Hgg.out, hn1, hn2, hR, hE⟩
  case round =>
    clear bA bB hR I1 I2 hE
    obtain ⟨b, a, n, c, x, b', a', n', c', y, hA, hx, hB, hy, hg, hn, hn', hR, hE⟩ := hrel
    have HA := Lib.hid hA; have HX := Lib.hid hx; have HB := Lib.hid hB; have HY := Lib.hid hy; have HG := Lib.hid hg; have HR := Lib.hid hR; have HE := Lib.hid hE
    have d0 := hA.c0; have d1 := hA.c1; have d2 := hB.c0; have d3 := hB.c1
    have hyz := hy.zero_iff.1
    by_cases h0 : n' = 0
    · have hgx : gg = x.natAbs := by rw [← hg, hyz.1 h0, Nat.gcd_zero_right]
      subst h0
      obtain ⟨l, p1, p2, p3, p4, p5, p6, p7, p8, p9⟩ := hx.abs
      have Hm := Lib.hid (zmade_any false a l n c wr p1 p4 p5 p2 p3 (by omega) (gg : Int) (by rw [hgx, p7]; rfl))
      clear hA hx hB hy hg hR hE hyz hgx p1 p2 p3 p4 p5 p6 p7 p8 p9
      go_wp2_with fail
      refine Hm.out.mono ?_
      rintro e w9 ⟨b9, a9, n9, c9, rfl, hI, hle, hx9⟩
      have hR9 := HR.out.ext hx9
      have k0 := hR9.c0; have k1 := hR9.c1; have f0 := hR9.f 0; have f1 := hR9.f 1
      go_wp2_with fail
      exact bodyPost_ret (v := .agg #[.bool b9, .slice a9 n9 c9]) (by simp [results, Tryz.results55, go_sem, k0, k1]) rfl ⟨b9, a9, n9, c9, rfl, hI.keepRes hR9.row _ _, by omega, zput2 (HE.out.trans hx9) (by omega) _ _⟩
    · have hy0 : y ≠ 0 := fun e => h0 (hyz.2 (by rw [e]; rfl))
      have in' : (0 : Int) < (n' : Int) := by omega
      have Hd := Lib.hid (ZDiv_any b b' a a' n c n' c' x y wr hx hy hn hn' hy0)
      have Hms := Lib.hid (zAt_of hB hy)
      clear hA hx hB hy hg hR hE hyz h0 hy0
      go_wp2_with fail
      refine Hd.out.mono ?_
      rintro e w5 ⟨b3, a3, n3, c3, b4, a4, n4, c4, q, r, rfl, Iq, Ir, heq, hr0, hrlt, hn3, hn4, hx5⟩
      have hE5 := ((ext_alloc w5 (.cells #[.bool b3, .slice a3 n3 c3] 33)).trans (ext_alloc _ (.cells #[.bool b4, .slice a4 n4 c4] 33))).trans (ext_alloc _ (.cells #[.int .i64 0, .int .i64 0] 28))
      have bRr := (zbx_new (w5.alloc (.cells #[.bool b3, .slice a3 n3 c3] 33)) b4 a4 n4 c4).ext (ext_alloc _ (.cells #[.int .i64 0, .int .i64 0] 28))
      rw [show (w5.alloc (.cells #[.bool b3, .slice a3 n3 c3] 33)).heap.size = w5.heap.size + 1 from by simp] at bRr
      have A6 := HA.out.ext (hx5.trans hE5); have B6 := HB.out.ext (hx5.trans hE5); have Y6 := HY.out.ext (hx5.trans hE5); have R6 := Ir.ext hE5; have Q6 := HR.out.ext (hx5.trans hE5)
      have HE6 := Lib.hid (HE.out.trans (hx5.trans hE5))
      have HGr := Lib.hid ((gcd_rest heq).trans HG.out)
      have Hrl : Hid (r.natAbs < y.natAbs) := by show _ < _; omega
      have e0 := A6.c0; have e1 := A6.c1; have e2 := B6.c0; have e3 := B6.c1; have e4 := bRr.c0; have e5 := bRr.c1
      have f0 := A6.f 0; have f1 := A6.f 1; have f2 := B6.f 0; have f3 := B6.f 1
      clear d0 d1 d2 d3 heq hr0 hrlt Iq Ir hE5
      go_wp2_with fail
      generalize ((w5.alloc (.cells #[.bool b3, .slice a3 n3 c3] 33)).alloc (.cells #[.bool b4, .slice a4 n4 c4] 33)).alloc (.cells #[.int .i64 0, .int .i64 0] 28) = W6 at *
      have l5 : w.heap.size + 1 + 1 < w5.heap.size := by have := (HR.out.ext hx5).lt; omega
      generalize w5.heap.size = S at *
      have n1' : S + 1 ≠ w.heap.size := by omega
      have n2' : S + 1 ≠ w.heap.size + 1 := by omega
      have B6' := B6.putR (Rb := w.heap.size) (by omega) (.bool b') (.slice a' n' c')
      have HA7 := Lib.hid (((A6.own b' a' n' c').putR (Rb := w.heap.size + 1) (by omega) (.bool b4) (.slice a4 n4 c4)).ext (Below.drew (Ext.refl _)))
      have HB7 := Lib.hid ((B6'.own b4 a4 n4 c4).ext (Below.drew (Ext.refl _)))
      have HY7 := Lib.hid (((Y6.keepRes A6.row (.bool b') (.slice a' n' c')).keepRes B6'.row (.bool b4) (.slice a4 n4 c4)).ext (Below.drew (Ext.refl _)))
      have HR7 := Lib.hid (((R6.keepRes A6.row (.bool b') (.slice a' n' c')).keepRes B6'.row (.bool b4) (.slice a4 n4 c4)).ext (Below.drew (Ext.refl _)))
      have HQ7 := Lib.hid (((Q6.putR (Rb := w.heap.size) (by omega) (.bool b') (.slice a' n' c')).putR (Rb := w.heap.size + 1) (by omega) (.bool b4) (.slice a4 n4 c4)).ext (Below.drew (Ext.refl _)))
      have HE7 := Lib.hid (Below.drew (zput2 (zput2 HE6.out (Nat.le_refl _) (.bool b') (.slice a' n' c')) (Nat.le_succ _) (.bool b4) (.slice a4 n4 c4)))
      clear A6 B6 B6' Y6 R6 Q6 bRr
      go_region
      all_goals
        go_wp2_with fail
        go_roundw
        case rel => exact ⟨b', a', n', c', y, b4, a4, n4, c4, r, HA7.out, HY7.out, HB7.out, HR7.out, HGr.out, hn', by omega, HQ7.out, HE7.out⟩
        case measure =>
          show zAt _ _ < zAt _ _
          rw [zAt_of HB7.out HR7.out, Hms.out]
          exact Hrl.out

end Go.Proofs.YtdiojbgbeeojkaaGreatDoor
