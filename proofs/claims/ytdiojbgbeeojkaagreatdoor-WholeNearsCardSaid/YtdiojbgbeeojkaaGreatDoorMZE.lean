/-
  The reference's numbers: dsub.
-/
import Derived.Test.YtdiojbgbeeojkaaGreatDoorMZA
import Derived.Deep.RegionHeld3

namespace Go.Proofs.YtdiojbgbeeojkaaGreatDoor
open Go.RowKit

theorem zsub_step {l la lb : List Nat} {k c c' x y dg : Nat} (hl : l.length = k) (hx : zval (la.take (k + 1)) = zval (la.take k) + 10000 ^ k * x) (hy : zval (lb.take (k + 1)) = zval (lb.take k) + 10000 ^ k * y) (h : zval l + zval (lb.take k) = zval (la.take k) + 10000 ^ k * c) (hd : dg + c + y = x + 10000 * c') :
    zval (l ++ [dg]) + zval (lb.take (k + 1)) = zval (la.take (k + 1)) + 10000 ^ (k + 1) * c' := by
  rw [zval_snoc, hl, hx, hy, Nat.pow_succ]
  have e2 : 10000 ^ k * (dg + c + y) = 10000 ^ k * (x + 10000 * c') := by rw [hd]
  rw [Nat.mul_add, Nat.mul_add, Nat.mul_add, ← Nat.mul_assoc] at e2
  omega

set_option maxHeartbeats 2000000 in
set_option maxRecDepth 100000 in
theorem dsub_any (a1 a2 : Option Addr) (la lb : List Nat) (n m c1 c2 : Nat) (w : World) (h1 : la.length = n) (h2 : lb.length = m) (s1 : ISeg w a1 la) (s2 : ISeg w a2 lb) (d1 : ZD la) (d2 : ZD lb) (hn : n ≤ 1000000) (hmn : m ≤ n) (hle : zval lb ≤ zval la) :
    Calls Tryz.prog 85 #[.slice a1 n c1, .slice a2 m c2] w fun e w' => ∃ (a' : Option Addr) (l' : List Nat) (n' c' : Nat), e = .returned (.slice a' n' c') ∧ l'.length = n' ∧ n' ≤ c' ∧ c' ≤ maxLen ∧ ISeg w' a' l' ∧ ZD l' ∧ Hid (zval l' + zval lb = zval la) ∧ n' ≤ n ∧ Ext w w' := by
  obtain ⟨i0, hi, hz0, hz1, hz2⟩ := info_parts int_info
  have H1 := Lib.hid h1; have H2 := Lib.hid h2; have S1 := Lib.hid s1; have S2 := Lib.hid s2; have D1 := Lib.hid d1; have D2 := Lib.hid d2; have Hle := Lib.hid hle
  have hA : n = 0 ∨ ∃ b o, a1 = some ⟨b, o, none⟩ := by
    by_cases h0 : n = 0
    · exact Or.inl h0
    · exact Or.inr (s1.some_of (by omega))
  have hB : m = 0 ∨ ∃ b o, a2 = some ⟨b, o, none⟩ := by
    by_cases h0 : m = 0
    · exact Or.inl h0
    · exact Or.inr (s2.some_of (by omega))
  clear h1 h2 s1 s2 d1 d2 hle
  go_enter Tryz.func85, Tryz.ntmps85
  go_wp2_with fail
  go_loopw [5, 6, 7] (fun ov cv iv wr => ∃ (k c : Nat) (l : List Nat), iv = .int .i64 k ∧ cv = .int .i64 c ∧ c ≤ 1 ∧ k ≤ n ∧ l.length = k ∧ ZD l ∧ wr.ownsRow w.heap.size 3 1 ov k (inC l) ∧ zval l + zval (lb.take k) = zval (la.take k) + 10000 ^ k * c ∧ Ext w wr) (fun _ _ iv _ => n - (intOf iv).toNat)
  case atStart => exact ⟨0, 0, [], rfl, rfl, by omega, by omega, rfl, ZD.nil, (show w.ownsRow w.heap.size 3 1 (.slice none 0 0) 0 (inC []) from World.ownsRow_nil _ _ _ _), by simp [zval], Ext.refl _⟩
  case round =>
    obtain ⟨k, c, l, rfl, rfl, hc1, hkn, hl, hd, hown, hval, hEr⟩ := hrel
    have Hl := Lib.hid hl; have Hd := Lib.hid hd; have Hval := Lib.hid hval; have Hown := Lib.hid hown
    clear hl hd hval hown
    by_cases hlt : k < n
    · rcases hA with h0 | ⟨b, o, rfl⟩
      · omega
      have hcx := (S1.out.ext hEr).at k (by rw [H1.out]; exact hlt)
      have hx := D1.out.get k
      have hxv := zval_take_in (l := la) (k := k) (by rw [H1.out]; exact hlt)
      obtain ⟨x, ex⟩ : ∃ x, la.getD k 0 = x := ⟨_, rfl⟩
      rw [ex] at hcx hx hxv
      have ikn : (k : Int) < (n : Int) := by omega
      have hye : ∃ y, y < 10000 ∧ zval (lb.take (k + 1)) = zval (lb.take k) + 10000 ^ k * y ∧ ((k < m ∧ ∃ b o, a2 = some ⟨b, o, none⟩ ∧ wr.cell? ⟨b, o + k, none⟩ = some (.int .i64 (y : Nat))) ∨ (¬ k < m ∧ y = 0)) := by
        by_cases h : k < m
        · rcases hB with h0 | ⟨b, o, rfl⟩
          · omega
          · exact ⟨lb.getD k 0, D2.out.get k, zval_take_in (by rw [H2.out]; exact h), Or.inl ⟨h, b, o, rfl, (S2.out.ext hEr).at k (by rw [H2.out]; exact h)⟩⟩
        · exact ⟨0, by omega, zval_take_out (by rw [H2.out]; exact h), Or.inr ⟨h, rfl⟩⟩
      obtain ⟨y, hy, hyv, hyc⟩ := hye
      clear ex
      by_cases hneg : x < c + y
      · obtain ⟨dg, hdg⟩ : ∃ dg, x + 10000 - (c + y) = dg := ⟨_, rfl⟩
        have hdl : dg < 10000 := by omega
        have Hstep := Lib.hid (zsub_step (c' := 1) (dg := dg) Hl.out hxv hyv Hval.out (by omega))
        have i1 : (x : Int) - (c : Int) - (y : Int) < 0 := by omega
        have i2 : (x : Int) - (c : Int) - (y : Int) + 10000 = (dg : Int) := by omega
        clear hdg hxv hyv
        rcases hyc with ⟨hkm2, b2, o2, rfl, hcy⟩ | ⟨hkm2, rfl⟩
        · have ikm : (k : Int) < (m : Int) := by omega
          clear hneg
          go_wp2_with (at_builtin; refine wpList_append_own _ rfl _ _ 31 rfl w.heap.size 3 i0 (.int .i64 0) 1 8 Tryz.underlying31 hi hz0 hz1 hz2 rfl (by decide) _ k (inC l) rfl (Hown.out.alloc _) ⟨wr.heap.size, 0, none⟩ 1 1 [.int .i64 (dg : Int)] rfl rfl (new_int wr _ _) (one_int _) (by unfold maxLen; omega) (by omega) (Nat.le_trans hEr.size (ext_alloc wr _).size) ?_; intro v' w' hown' hgrow' _)
          go_roundw
          case rel => exact ⟨k + 1, 1, l ++ [dg], by go_num, rfl, by omega, by omega, by rw [List.length_append, Hl.out]; rfl, Hd.out.snoc hdl, by rw [inC_snoc]; exact hown', Hstep.out, ext_grown (hEr.trans (ext_alloc wr _)) hgrow' (fun j hj => (Hown.out.lt j hj).1)⟩
          case measure => simp [intOf]; omega
        · have ikm : ¬ (k : Int) < (m : Int) := by omega
          have i1' : (x : Int) - (c : Int) < 0 := by omega
          have i2' : (x : Int) - (c : Int) + 10000 = (dg : Int) := by omega
          clear hneg i1 i2
          go_wp2_with (at_builtin; refine wpList_append_own _ rfl _ _ 31 rfl w.heap.size 3 i0 (.int .i64 0) 1 8 Tryz.underlying31 hi hz0 hz1 hz2 rfl (by decide) _ k (inC l) rfl (Hown.out.alloc _) ⟨wr.heap.size, 0, none⟩ 1 1 [.int .i64 (dg : Int)] rfl rfl (new_int wr _ _) (one_int _) (by unfold maxLen; omega) (by omega) (Nat.le_trans hEr.size (ext_alloc wr _).size) ?_; intro v' w' hown' hgrow' _)
          go_roundw
          case rel => exact ⟨k + 1, 1, l ++ [dg], by go_num, rfl, by omega, by omega, by rw [List.length_append, Hl.out]; rfl, Hd.out.snoc hdl, by rw [inC_snoc]; exact hown', Hstep.out, ext_grown (hEr.trans (ext_alloc wr _)) hgrow' (fun j hj => (Hown.out.lt j hj).1)⟩
          case measure => simp [intOf]; omega
      · obtain ⟨dg, hdg⟩ : ∃ dg, x - (c + y) = dg := ⟨_, rfl⟩
        have hdl : dg < 10000 := by omega
        have Hstep := Lib.hid (zsub_step (c' := 0) (dg := dg) Hl.out hxv hyv Hval.out (by omega))
        have i2 : (x : Int) - (c : Int) - (y : Int) = (dg : Int) := by omega
        clear hdg hxv hyv
        rcases hyc with ⟨hkm2, b2, o2, rfl, hcy⟩ | ⟨hkm2, rfl⟩
        · have ikm : (k : Int) < (m : Int) := by omega
          clear hneg
          go_wp2_with (at_builtin; refine wpList_append_own _ rfl _ _ 31 rfl w.heap.size 3 i0 (.int .i64 0) 1 8 Tryz.underlying31 hi hz0 hz1 hz2 rfl (by decide) _ k (inC l) rfl (Hown.out.alloc _) ⟨wr.heap.size, 0, none⟩ 1 1 [.int .i64 (dg : Int)] rfl rfl (new_int wr _ _) (one_int _) (by unfold maxLen; omega) (by omega) (Nat.le_trans hEr.size (ext_alloc wr _).size) ?_; intro v' w' hown' hgrow' _)
          go_roundw
          case rel => exact ⟨k + 1, 0, l ++ [dg], by go_num, rfl, by omega, by omega, by rw [List.length_append, Hl.out]; rfl, Hd.out.snoc hdl, by rw [inC_snoc]; exact hown', Hstep.out, ext_grown (hEr.trans (ext_alloc wr _)) hgrow' (fun j hj => (Hown.out.lt j hj).1)⟩
          case measure => simp [intOf]; omega
        · have ikm : ¬ (k : Int) < (m : Int) := by omega
          have i2' : (x : Int) - (c : Int) = (dg : Int) := by omega
          clear hneg i2
          go_wp2_with (at_builtin; refine wpList_append_own _ rfl _ _ 31 rfl w.heap.size 3 i0 (.int .i64 0) 1 8 Tryz.underlying31 hi hz0 hz1 hz2 rfl (by decide) _ k (inC l) rfl (Hown.out.alloc _) ⟨wr.heap.size, 0, none⟩ 1 1 [.int .i64 (dg : Int)] rfl rfl (new_int wr _ _) (one_int _) (by unfold maxLen; omega) (by omega) (Nat.le_trans hEr.size (ext_alloc wr _).size) ?_; intro v' w' hown' hgrow' _)
          go_roundw
          case rel => exact ⟨k + 1, 0, l ++ [dg], by go_num, rfl, by omega, by omega, by rw [List.length_append, Hl.out]; rfl, Hd.out.snoc hdl, by rw [inC_snoc]; exact hown', Hstep.out, ext_grown (hEr.trans (ext_alloc wr _)) hgrow' (fun j hj => (Hown.out.lt j hj).1)⟩
          case measure => simp [intOf]; omega
    · obtain rfl : k = n := by omega
      have hfin : zval l + zval lb = zval la := by
        have hv := Hval.out
        rw [List.take_of_length_le (l := lb) (by rw [H2.out]; exact hmn), List.take_of_length_le (l := la) (by rw [H1.out]; exact Nat.le_refl _)] at hv
        have hb := zval_lt Hd.out
        rw [Hl.out] at hb
        have := Hle.out
        have hc : c = 0 ∨ c = 1 := by omega
        rcases hc with rfl | rfl
        · simpa using hv
        · rw [Nat.mul_one] at hv; omega
      have Hfin := Lib.hid hfin
      have g1 : ¬ (k : Int) < (k : Int) := by omega
      obtain ⟨a', c', rfl, q1, q2, q3, q4⟩ := iseg_of_own Hown.out
      clear hfin
      go_wp2_with fail
      go_ret
      exact ⟨a', l, k, c', rfl, q3, q1, q2, q4, Hd.out, Hfin.out, Nat.le_refl _, hEr⟩

end Go.Proofs.YtdiojbgbeeojkaaGreatDoor

/-
  The reference's numbers: ZNeg, ZAdd, ZSub, ZCmp.
-/
namespace Go.Proofs.YtdiojbgbeeojkaaGreatDoor
open Go.RowKit

theorem zKeep {W w' : World} (h : Ext W w') {b o : Nat} {v : Value} (hb : b < W.heap.size) (hc : W.cell? ⟨b, o, none⟩ = some v) : w'.cell? ⟨b, o, none⟩ = some v := (h.cell (p := ⟨b, o, none⟩) hb).trans hc
theorem zPut {w' : World} {g o' b o : Nat} {u v : Value} (hne : b ≠ g) (hc : w'.cell? ⟨b, o, none⟩ = some v) : (w'.setCell ⟨g, o', none⟩ u).cell? ⟨b, o, none⟩ = some v := by
  have hO : Only g w' (w'.setCell ⟨g, o', none⟩ u) := (Only.refl _ _).setCell _ _
  exact (World.cell?_of_block (a := ⟨b, o, none⟩) (hO.block _ hne)).trans hc
theorem zput2 {w W : World} {g : Nat} (h : Ext w W) (hg : w.heap.size ≤ g) (u v : Value) : Ext w ((W.setCell ⟨g, 0, none⟩ u).setCell ⟨g, 1, none⟩ v) := (Below.setCell h (p := ⟨g, 0, none⟩) hg u).setCell (p := ⟨g, 1, none⟩) hg v

/-- A variable that holds a number of the reference. -/
structure ZBx (W : World) (g : Nat) (b : Bool) (a : Option Addr) (n c : Nat) : Prop where
  row : W.heap[g]? = some (.cells #[.bool b, .slice a n c] 33 (0, 0))
theorem ZBx.lt {W : World} {g : Nat} {b : Bool} {a : Option Addr} {n c : Nat} (h : ZBx W g b a n c) : g < W.heap.size := (Array.getElem?_eq_some_iff.1 h.row).1
theorem ZBx.ext {W W' : World} {g : Nat} {b : Bool} {a : Option Addr} {n c : Nat} (h : ZBx W g b a n c) (k : Ext W W') : ZBx W' g b a n c := ⟨(k.block _ h.lt).trans h.row⟩
theorem ZBx.c0 {W : World} {g : Nat} {b : Bool} {a : Option Addr} {n c : Nat} (h : ZBx W g b a n c) : W.cell? ⟨g, 0, none⟩ = some (.bool b) := by rw [cell_of_row W g 0 _ _ (0, 0) h.row]; rfl
theorem ZBx.c1 {W : World} {g : Nat} {b : Bool} {a : Option Addr} {n c : Nat} (h : ZBx W g b a n c) : W.cell? ⟨g, 1, none⟩ = some (.slice a n c) := by rw [cell_of_row W g 1 _ _ (0, 0) h.row]; rfl
theorem zbx_new (w : World) (b : Bool) (a : Option Addr) (n c : Nat) : ZBx (w.alloc (.cells #[.bool b, .slice a n c] 33)) w.heap.size b a n c := ⟨heap_alloc_new w _⟩

set_option maxHeartbeats 1000000 in
set_option maxRecDepth 100000 in
theorem ZNeg_any (neg : Bool) (ao : Option Addr) (n c : Nat) (z : Int) (w : World) (h : IsZ w neg ao n c z) (hn : n ≤ 1000000) :
    Calls Tryz.prog 53 #[.agg #[.bool neg, .slice ao n c]] w (ZRet w (-z) n) := by
  obtain ⟨l, h1, h2, h3, h4, h5, h6, h7, h8⟩ := h
  have hE := (ext_alloc w (.cells #[.bool neg, .slice ao n c] 33)).trans (ext_alloc _ (.cells #[.bool false, .slice none 0 0] 33))
  have hR := zres_new (w.alloc (.cells #[.bool neg, .slice ao n c] 33))
  rw [show (w.alloc (.cells #[.bool neg, .slice ao n c] 33)).heap.size = w.heap.size + 1 from by simp] at hR
  have Hz : Hid (-z = if (!neg) = true then -(zval l : Int) else (zval l : Int)) := by
    show _ = _
    rw [h7]; cases neg <;> simp
  have Hm := Lib.hid (fun wx (hx : Ext w wx) => zmade_any (!neg) ao l n c wx h1 (h4.ext hx) h5 h2 h3 hn (-z) Hz.out)
  clear h1 h2 h3 h4 h5 h6 h7 h8
  go_enter Tryz.func53, Tryz.ntmps53
  go_wp2_with fail
  refine (Hm.out _ hE).mono ?_
  rintro e w1 ⟨b', a', n', c', rfl, hI, hle, hx⟩
  have hR1 := hR.ext hx
  have k0 := hR1.c0; have k1 := hR1.c1; have f0 := hR1.f 0; have f1 := hR1.f 1
  go_wp2_with fail
  exact bodyPost_ret (v := .agg #[.bool b', .slice a' n' c']) (by simp [results, Tryz.results53, go_sem, k0, k1]) rfl ⟨b', a', n', c', rfl, hI.keepRes hR1.row _ _, hle, zput2 (hE.trans hx) (by omega) _ _⟩

set_option maxHeartbeats 2000000 in
set_option maxRecDepth 100000 in
theorem ZAdd_any (b1 b2 : Bool) (a1 a2 : Option Addr) (n1 c1 n2 c2 : Nat) (z1 z2 : Int) (w : World) (h1 : IsZ w b1 a1 n1 c1 z1) (h2 : IsZ w b2 a2 n2 c2 z2) (hn1 : n1 ≤ 500000) (hn2 : n2 ≤ 500000) :
    Calls Tryz.prog 51 #[.agg #[.bool b1, .slice a1 n1 c1], .agg #[.bool b2, .slice a2 n2 c2]] w (ZRet w (z1 + z2) (max n1 n2 + 1)) := by
  have H1 := Lib.hid h1; have H2 := Lib.hid h2
  obtain ⟨la, p1, p2, p3, p4, p5, p6, p7, p8⟩ := h1
  obtain ⟨lb, q1, q2, q3, q4, q5, q6, q7, q8⟩ := h2
  have hE := ((ext_alloc w (.cells #[.bool b1, .slice a1 n1 c1] 33)).trans (ext_alloc _ (.cells #[.bool b2, .slice a2 n2 c2] 33))).trans (ext_alloc _ (.cells #[.bool false, .slice none 0 0] 33))
  have bA := ((zbx_new w b1 a1 n1 c1).ext (ext_alloc _ (.cells #[.bool b2, .slice a2 n2 c2] 33))).ext (ext_alloc _ (.cells #[.bool false, .slice none 0 0] 33))
  have bB := (zbx_new (w.alloc (.cells #[.bool b1, .slice a1 n1 c1] 33)) b2 a2 n2 c2).ext (ext_alloc _ (.cells #[.bool false, .slice none 0 0] 33))
  have hR := zres_new ((w.alloc (.cells #[.bool b1, .slice a1 n1 c1] 33)).alloc (.cells #[.bool b2, .slice a2 n2 c2] 33))
  rw [show (w.alloc (.cells #[.bool b1, .slice a1 n1 c1] 33)).heap.size = w.heap.size + 1 from by simp] at bB
  rw [show ((w.alloc (.cells #[.bool b1, .slice a1 n1 c1] 33)).alloc (.cells #[.bool b2, .slice a2 n2 c2] 33)).heap.size = w.heap.size + 1 + 1 from by simp] at hR
  have k0 := hR.c0; have k1 := hR.c1; have f0 := hR.f 0; have f1 := hR.f 1
  have x0 := bA.c0; have x1 := bA.c1; have y0 := bB.c0; have y1 := bB.c1
  by_cases h10 : n1 = 0
  · have hz : z1 = 0 := by
      have : la = [] := List.eq_nil_of_length_eq_zero (by omega)
      rw [p7, this]; simp [zval]
    subst h10
    rw [hz, Int.zero_add]
    clear p1 p2 p3 p4 p5 p6 p7 p8 q1 q2 q3 q4 q5 q6 q7 q8
    go_enter Tryz.func51, Tryz.ntmps51
    go_wp2_with fail
    exact bodyPost_ret (v := .agg #[.bool b2, .slice a2 n2 c2]) (by simp [results, Tryz.results51, go_sem]) rfl ⟨b2, a2, n2, c2, rfl, H2.out.ext (((ext_alloc _ _).trans (ext_alloc _ _)).trans (ext_alloc _ _)), by omega, ((ext_alloc _ _).trans (ext_alloc _ _)).trans (ext_alloc _ _)⟩
  · have g1 : ((n1 : Int) == 0) = false := by rw [beq_eq_false_iff_ne]; omega
    by_cases h20 : n2 = 0
    · have hz : z2 = 0 := by
        have : lb = [] := List.eq_nil_of_length_eq_zero (by omega)
        rw [q7, this]; simp [zval]
      subst h20
      rw [hz, Int.add_zero]
      clear p1 p2 p3 p4 p5 p6 p7 p8 q1 q2 q3 q4 q5 q6 q7 q8
      go_enter Tryz.func51, Tryz.ntmps51
      go_wp2_with fail
      exact bodyPost_ret (v := .agg #[.bool b1, .slice a1 n1 c1]) (by simp [results, Tryz.results51, go_sem]) rfl ⟨b1, a1, n1, c1, rfl, H1.out.ext (((ext_alloc _ _).trans (ext_alloc _ _)).trans (ext_alloc _ _)), by omega, ((ext_alloc _ _).trans (ext_alloc _ _)).trans (ext_alloc _ _)⟩
    · have g2 : ((n2 : Int) == 0) = false := by rw [beq_eq_false_iff_ne]; omega
      have P7 := Lib.hid p7; have Q7 := Lib.hid q7
      have Hda := Lib.hid (fun wx (hx : Ext w wx) => dadd_any a1 a2 la lb n1 n2 c1 c2 wx p1 q1 (p4.ext hx) (q4.ext hx) p5 q5 (by omega) (by omega))
      have Hdc := Lib.hid (fun wx (hx : Ext w wx) => dcmp_any a1 a2 la lb n1 n2 c1 c2 wx p1 q1 (p4.ext hx) (q4.ext hx) p5 q5 p6 q6 p2 q2 (by omega) (by omega))
      have Hs1 := Lib.hid (fun wx (hx : Ext w wx) (hv : zval lb ≤ zval la) => dsub_any a1 a2 la lb n1 n2 c1 c2 wx p1 q1 (p4.ext hx) (q4.ext hx) p5 q5 (by omega) (Nat.le_of_not_lt (fun hlt => by have := zval_lt_len p5 q6 (by omega); omega)) hv)
      have Hs2 := Lib.hid (fun wx (hx : Ext w wx) (hv : zval la ≤ zval lb) => dsub_any a2 a1 lb la n2 n1 c2 c1 wx q1 p1 (q4.ext hx) (p4.ext hx) q5 p5 (by omega) (Nat.le_of_not_lt (fun hlt => by have := zval_lt_len q5 p6 (by omega); omega)) hv)
      clear p1 p2 p3 p4 p5 p6 p7 p8 q1 q2 q3 q4 q5 q6 q7 q8 h10 h20 H1 H2 k0 k1 f0 f1
      by_cases hbb : b1 = b2
      · subst hbb
        have HV : Hid (∀ l5, zval l5 = zval la + zval lb → z1 + z2 = if b1 = true then -(zval l5 : Int) else (zval l5 : Int)) := by
          intro l5 h5
          rw [P7.out, Q7.out, h5]; cases b1 <;> simp <;> omega
        have hbt : (b1 == b1) = true := by simp
        go_enter Tryz.func51, Tryz.ntmps51
        go_wp2_with fail
        generalize ((w.alloc (.cells #[.bool b1, .slice a1 n1 c1] 33)).alloc (.cells #[.bool b1, .slice a2 n2 c2] 33)).alloc (.cells #[.bool false, .slice none 0 0] 33) = WB at *
        have hRB := hR
        have lR := hR.lt
        have hBd : Ext WB WB.drew := Below.drew (Ext.refl _)
        go_region_held3 (fun w' => w'.cell? ⟨w.heap.size, 0, none⟩ = some (.bool b1) ∧ w'.cell? ⟨w.heap.size, 1, none⟩ = some (.slice a1 n1 c1) ∧ w'.cell? ⟨w.heap.size + 1, 0, none⟩ = some (.bool b1) ∧ w'.cell? ⟨w.heap.size + 1, 1, none⟩ = some (.slice a2 n2 c2))
          (refine ⟨?_, ?_, ?_, ?_⟩ <;> (repeat (refine zPut (by omega) ?_)) <;> exact zKeep (W := WB) (by assumption) (by omega) (by assumption))
          (first | (go_at_call 83; refine (Hda.out _ (hE.trans (by assumption))).mono ?_; rintro e w5 ⟨a5, l5, n5, c5, rfl, hl5, hn5, hc5, hs5, hd5, Hv5, hm5, hx5⟩; have he5 : Ext WB w5 := Ext.trans (by assumption) hx5) | (go_at_call 72; refine (zmade_any b1 a5 l5 n5 c5 w5 hl5 hs5 hd5 hn5 hc5 (by omega) (z1 + z2) (HV.out l5 Hv5.out)).mono ?_; rintro e w9 ⟨b', a', n', c', rfl, hI, hle, hx9⟩; have he9 : Ext WB w9 := he5.trans hx9; have hR9 := hRB.ext he9; have k0 := hR9.c0; have k1 := hR9.c1; have f0 := hR9.f 0; have f1 := hR9.f 1))
        go_wp2_with fail
        exact bodyPost_ret (v := .agg #[.bool b', .slice a' n' c']) (by simp [results, Tryz.results51, go_sem, k0, k1]) rfl ⟨b', a', n', c', rfl, hI.keepRes hR9.row _ _, by omega, zput2 (hE.trans he9) (by omega) _ _⟩
      · have hbt : (b1 == b2) = false := by cases b1 <;> cases b2 <;> simp_all
        have Hbb := Lib.hid hbb
        obtain ⟨k, ek⟩ : ∃ k, zc (zval la) (zval lb) = k := ⟨_, rfl⟩
        rw [ek] at Hdc
        have Ek := Lib.hid ek
        clear ek hbb
        go_enter Tryz.func51, Tryz.ntmps51
        go_wp2_with fail
        generalize ((w.alloc (.cells #[.bool b1, .slice a1 n1 c1] 33)).alloc (.cells #[.bool b2, .slice a2 n2 c2] 33)).alloc (.cells #[.bool false, .slice none 0 0] 33) = WB at *
        refine (Hdc.out _ hE).mono ?_
        rintro e WC ⟨rfl, hxC⟩
        have HEC := Lib.hid (hE.trans hxC)
        have hRC := hR.ext hxC
        have lR := hRC.lt
        have z0 := zKeep hxC bA.lt x0; have z1' := zKeep hxC bA.lt x1; have z2' := zKeep hxC bB.lt y0; have z3 := zKeep hxC bB.lt y1
        have hCd : Ext WC WC.drew := Below.drew (Ext.refl _)
        clear x0 x1 y0 y1 bA bB hR hE hxC
        by_cases hge : zval lb ≤ zval la
        · have Hge := Lib.hid hge
          have ik : (0 : Int) ≤ k := by
            rw [← Ek.out]; unfold zc
            rw [if_neg (by omega)]
            split <;> decide
          have HV : Hid (∀ l5, zval l5 + zval lb = zval la → z1 + z2 = if b1 = true then -(zval l5 : Int) else (zval l5 : Int)) := by
            intro l5 h5
            have hb := Hbb.out
            rw [P7.out, Q7.out]
            cases b1 <;> cases b2 <;> simp_all <;> omega
          clear hge
          go_wp2_with fail
          go_region_held3 (fun w' => w'.cell? ⟨w.heap.size, 0, none⟩ = some (.bool b1) ∧ w'.cell? ⟨w.heap.size, 1, none⟩ = some (.slice a1 n1 c1) ∧ w'.cell? ⟨w.heap.size + 1, 0, none⟩ = some (.bool b2) ∧ w'.cell? ⟨w.heap.size + 1, 1, none⟩ = some (.slice a2 n2 c2))
            (refine ⟨?_, ?_, ?_, ?_⟩ <;> (repeat (refine zPut (by omega) ?_)) <;> exact zKeep (W := WC) (by assumption) (by omega) (by assumption))
            (first | (go_at_call 85; refine (Hs1.out _ (HEC.out.trans (by assumption)) Hge.out).mono ?_; rintro e w5 ⟨a5, l5, n5, c5, rfl, hl5, hn5, hc5, hs5, hd5, Hv5, hm5, hx5⟩; have he5 : Ext WC w5 := Ext.trans (by assumption) hx5) | (go_at_call 72; refine (zmade_any b1 a5 l5 n5 c5 w5 hl5 hs5 hd5 hn5 hc5 (by omega) (z1 + z2) (HV.out l5 Hv5.out)).mono ?_; rintro e w9 ⟨b', a', n', c', rfl, hI, hle, hx9⟩; have he9 : Ext WC w9 := he5.trans hx9; have hR9 := hRC.ext he9; have k0 := hR9.c0; have k1 := hR9.c1; have f0 := hR9.f 0; have f1 := hR9.f 1))
          go_wp2_with fail
          exact bodyPost_ret (v := .agg #[.bool b', .slice a' n' c']) (by simp [results, Tryz.results51, go_sem, k0, k1]) rfl ⟨b', a', n', c', rfl, hI.keepRes hR9.row _ _, by omega, zput2 (HEC.out.trans he9) (by omega) _ _⟩
        · have Hge : Hid (zval la ≤ zval lb) := by show _ ≤ _; omega
          have ik : ¬ (0 : Int) ≤ k := by
            rw [← Ek.out]; unfold zc
            rw [if_pos (by omega)]; decide
          have HV : Hid (∀ l5, zval l5 + zval la = zval lb → z1 + z2 = if b2 = true then -(zval l5 : Int) else (zval l5 : Int)) := by
            intro l5 h5
            have hb := Hbb.out
            rw [P7.out, Q7.out]
            cases b1 <;> cases b2 <;> simp_all <;> omega
          clear hge
          go_wp2_with fail
          go_region_held3 (fun w' => w'.cell? ⟨w.heap.size, 0, none⟩ = some (.bool b1) ∧ w'.cell? ⟨w.heap.size, 1, none⟩ = some (.slice a1 n1 c1) ∧ w'.cell? ⟨w.heap.size + 1, 0, none⟩ = some (.bool b2) ∧ w'.cell? ⟨w.heap.size + 1, 1, none⟩ = some (.slice a2 n2 c2))
            (refine ⟨?_, ?_, ?_, ?_⟩ <;> (repeat (refine zPut (by omega) ?_)) <;> exact zKeep (W := WC) (by assumption) (by omega) (by assumption))
            (first | (go_at_call 85; refine (Hs2.out _ (HEC.out.trans (by assumption)) Hge.out).mono ?_; rintro e w5 ⟨a5, l5, n5, c5, rfl, hl5, hn5, hc5, hs5, hd5, Hv5, hm5, hx5⟩; have he5 : Ext WC w5 := Ext.trans (by assumption) hx5) | (go_at_call 72; refine (zmade_any b2 a5 l5 n5 c5 w5 hl5 hs5 hd5 hn5 hc5 (by omega) (z1 + z2) (HV.out l5 Hv5.out)).mono ?_; rintro e w9 ⟨b', a', n', c', rfl, hI, hle, hx9⟩; have he9 : Ext WC w9 := he5.trans hx9; have hR9 := hRC.ext he9; have k0 := hR9.c0; have k1 := hR9.c1; have f0 := hR9.f 0; have f1 := hR9.f 1))
          go_wp2_with fail
          exact bodyPost_ret (v := .agg #[.bool b', .slice a' n' c']) (by simp [results, Tryz.results51, go_sem, k0, k1]) rfl ⟨b', a', n', c', rfl, hI.keepRes hR9.row _ _, by omega, zput2 (HEC.out.trans he9) (by omega) _ _⟩

end Go.Proofs.YtdiojbgbeeojkaaGreatDoor

/-
  The reference's numbers: ZSub, ZCmp.
-/
namespace Go.Proofs.YtdiojbgbeeojkaaGreatDoor
open Go.RowKit

theorem ZRet.le {w : World} {z : Int} {n m : Nat} {e : Ending} {w' : World} (h : ZRet w z n e w') (hm : n ≤ m) : ZRet w z m e w' := by
  obtain ⟨b', a', n', c', h1, h2, h3, h4⟩ := h
  exact ⟨b', a', n', c', h1, h2, Nat.le_trans h3 hm, h4⟩

set_option maxHeartbeats 2000000 in
set_option maxRecDepth 100000 in
theorem ZSub_any (b1 b2 : Bool) (a1 a2 : Option Addr) (n1 c1 n2 c2 : Nat) (z1 z2 : Int) (w : World) (h1 : IsZ w b1 a1 n1 c1 z1) (h2 : IsZ w b2 a2 n2 c2 z2) (hn1 : n1 ≤ 500000) (hn2 : n2 ≤ 500000) :
    Calls Tryz.prog 81 #[.agg #[.bool b1, .slice a1 n1 c1], .agg #[.bool b2, .slice a2 n2 c2]] w (ZRet w (z1 - z2) (max n1 n2 + 1)) := by
  have H1 := Lib.hid h1; have H2 := Lib.hid h2
  have hE := ((ext_alloc w (.cells #[.bool b1, .slice a1 n1 c1] 33)).trans (ext_alloc _ (.cells #[.bool b2, .slice a2 n2 c2] 33))).trans (ext_alloc _ (.cells #[.bool false, .slice none 0 0] 33))
  have bA := ((zbx_new w b1 a1 n1 c1).ext (ext_alloc _ (.cells #[.bool b2, .slice a2 n2 c2] 33))).ext (ext_alloc _ (.cells #[.bool false, .slice none 0 0] 33))
  have bB := (zbx_new (w.alloc (.cells #[.bool b1, .slice a1 n1 c1] 33)) b2 a2 n2 c2).ext (ext_alloc _ (.cells #[.bool false, .slice none 0 0] 33))
  have hR := zres_new ((w.alloc (.cells #[.bool b1, .slice a1 n1 c1] 33)).alloc (.cells #[.bool b2, .slice a2 n2 c2] 33))
  rw [show (w.alloc (.cells #[.bool b1, .slice a1 n1 c1] 33)).heap.size = w.heap.size + 1 from by simp] at bB
  rw [show ((w.alloc (.cells #[.bool b1, .slice a1 n1 c1] 33)).alloc (.cells #[.bool b2, .slice a2 n2 c2] 33)).heap.size = w.heap.size + 1 + 1 from by simp] at hR
  have x0 := bA.c0; have x1 := bA.c1; have y0 := bB.c0; have y1 := bB.c1
  clear h1 h2
  go_enter Tryz.func81, Tryz.ntmps81
  go_wp2_with fail
  generalize ((w.alloc (.cells #[.bool b1, .slice a1 n1 c1] 33)).alloc (.cells #[.bool b2, .slice a2 n2 c2] 33)).alloc (.cells #[.bool false, .slice none 0 0] 33) = WB at *
  have lR := hR.lt
  have hBd : Ext WB WB.drew := Below.drew (Ext.refl _)
  go_region_held3 (fun w' => w'.cell? ⟨w.heap.size, 0, none⟩ = some (.bool b1) ∧ w'.cell? ⟨w.heap.size, 1, none⟩ = some (.slice a1 n1 c1) ∧ w'.cell? ⟨w.heap.size + 1, 0, none⟩ = some (.bool b2) ∧ w'.cell? ⟨w.heap.size + 1, 1, none⟩ = some (.slice a2 n2 c2))
    (refine ⟨?_, ?_, ?_, ?_⟩ <;> (repeat (refine zPut (by omega) ?_)) <;> exact zKeep (W := WB) (by assumption) (by omega) (by assumption))
    (first | (go_at_call 53; refine (ZNeg_any b2 a2 n2 c2 z2 _ (H2.out.ext (hE.trans (by assumption))) (by omega)).mono ?_; rintro e w5 ⟨b5, a5, n5, c5, rfl, hI5, hle5, hx5⟩; have he5 : Ext WB w5 := Ext.trans (by assumption) hx5) | (go_at_call 51; refine (ZAdd_any b1 b5 a1 a5 n1 c1 n5 c5 z1 (-z2) w5 (H1.out.ext (hE.trans he5)) hI5 hn1 (by omega)).mono ?_; rintro e w9 ⟨b', a', n', c', rfl, hI, hle, hx9⟩; have he9 : Ext WB w9 := he5.trans hx9; have hR9 := hR.ext he9; have k0 := hR9.c0; have k1 := hR9.c1; have f0 := hR9.f 0; have f1 := hR9.f 1))
  go_wp2_with fail
  exact bodyPost_ret (v := .agg #[.bool b', .slice a' n' c']) (by simp [results, Tryz.results81, go_sem, k0, k1]) rfl ⟨b', a', n', c', rfl, (hI.cast (by omega)).keepRes hR9.row _ _, by omega, zput2 (hE.trans he9) (by omega) _ _⟩

set_option maxHeartbeats 1000000 in
set_option maxRecDepth 100000 in
theorem ZCmp_any (b1 b2 : Bool) (a1 a2 : Option Addr) (n1 c1 n2 c2 : Nat) (z1 z2 : Int) (w : World) (h1 : IsZ w b1 a1 n1 c1 z1) (h2 : IsZ w b2 a2 n2 c2 z2) (hn1 : n1 ≤ 500000) (hn2 : n2 ≤ 500000) (k : Int) (hk : k = if z1 - z2 < 0 then -1 else if 0 < z1 - z2 then 1 else 0) :
    Calls Tryz.prog 48 #[.agg #[.bool b1, .slice a1 n1 c1], .agg #[.bool b2, .slice a2 n2 c2]] w fun e w' => e = .returned (.int .i64 k) ∧ Ext w w' := by
  have H1 := Lib.hid h1; have H2 := Lib.hid h2; have Hk := Lib.hid hk
  have hE := (ext_alloc w (.cells #[.bool b1, .slice a1 n1 c1] 33)).trans (ext_alloc _ (.cells #[.bool b2, .slice a2 n2 c2] 33))
  clear h1 h2 hk
  go_enter Tryz.func48, Tryz.ntmps48
  go_wp2_with fail
  refine (ZSub_any b1 b2 a1 a2 n1 c1 n2 c2 z1 z2 _ (H1.out.ext hE) (H2.out.ext hE) hn1 hn2).mono ?_
  rintro e w1 ⟨b', a', n', c', rfl, hI, hle, hx1⟩
  go_wp2_with fail
  refine (zsign_any b' a' n' c' (z1 - z2) w1 hI k Hk.out).mono ?_
  rintro e w2 ⟨rfl, hx2⟩
  go_wp2_with fail
  go_ret
  exact ⟨rfl, hE.trans (hx1.trans hx2)⟩

end Go.Proofs.YtdiojbgbeeojkaaGreatDoor
