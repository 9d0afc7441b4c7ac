/-
  Copies: of a list, of an operation.
-/
import Derived.Test.YtfjbhiihfibbaaaDoorMCa
import Derived.OwnWalk
import Derived.Test.YtfjbhiihfibbaaaDoorMCe
import Derived.Deep.CutRange

namespace Go.Proofs.YtfjbhiihfibbaaaDoor
open Go.RowKit

theorem i_info : (Tryd.prog.info? 3).map (fun i => (i.zero, i.size, i.bytes)) = some (some (.int .i64 0), 1, 8) := by kernel_rfl
/-- Ints as cells. -/
def iC (l : List Int) : List Value := l.map fun x => Value.int .i64 x
theorem iC_length (l : List Int) : (iC l).length = l.length := by simp [iC]
theorem iC_snoc (l : List Int) (x : Int) : iC (l ++ [x]) = iC l ++ [.int .i64 x] := by simp [iC]
theorem grown_ext {w a b : World} {row : Option Nat} (h : Ext w a) (hg : a.grownBy b row) (hr : ∀ k, row = some k → w.heap.size ≤ k) : Ext w b := Below.grown h hg h.size hr
/-- They lie in a block of ints. -/
def TyI (w : World) (a : Option Addr) : Prop := ∀ ad, a = some ad → ∃ (cur : Array Value) (fr : Nat × Nat), w.heap[ad.block]? = some (.cells cur 3 fr)
theorem TyI.keep {w w' : World} {a : Option Addr} (h : TyI w a) (hk : ∀ (b : Nat) (cur : Array Value) (fr : Nat × Nat), w.heap[b]? = some (.cells cur 3 fr) → w'.heap[b]? = w.heap[b]?) : TyI w' a := by
  intro ad e
  obtain ⟨cur, fr, h1⟩ := h ad e
  exact ⟨cur, fr, (hk _ _ _ h1).trans h1⟩
theorem TyI.ext {w w' : World} {a : Option Addr} (h : TyI w a) (k : Ext w w') : TyI w' a := h.keep fun b _ _ e => k.block b (Array.getElem?_eq_some_iff.1 e).1
/-- Whatever leaves blocks of ints alone leaves the list alone. -/
theorem IntsAt.keep {w w' : World} {ao : Option Addr} {n : Nat} {l : List Int} (h : IntsAt w ao n l) (ht : TyI w ao) (hs : w.heap.size ≤ w'.heap.size) (hk : ∀ (b : Nat) (cur : Array Value) (fr : Nat × Nat), w.heap[b]? = some (.cells cur 3 fr) → w'.heap[b]? = w.heap[b]?) : IntsAt w' ao n l := by
  refine ⟨h.1, ?_⟩
  rcases h.2 with h0 | ⟨b, o, rfl, hb, hc⟩
  · exact Or.inl h0
  · obtain ⟨cur, fr, e⟩ := ht _ rfl
    have hblk : w'.heap[b]? = w.heap[b]? := hk b cur fr e
    exact Or.inr ⟨b, o, rfl, Nat.lt_of_lt_of_le hb hs, fun t ht => (World.cell?_of_block (a := ⟨b, o + t, none⟩) hblk).trans (hc t ht)⟩
theorem ints_of_own {w : World} {base n : Nat} {v : Value} {l : List Int} (h : w.ownsRow base 3 1 v n (iC l)) : ∃ (a : Option Addr) (c : Nat), v = .slice a n c ∧ n ≤ c ∧ c ≤ maxLen ∧ IntsAt w a n l ∧ TyI w a := by
  have hl : l.length = n := by have := h.1; simpa [iC] using this
  rcases h.2 with ⟨rfl, rfl⟩ | ⟨g, cap, cur, rfl, _, hg, hnc, hcm, _, htk⟩
  · exact ⟨none, 0, rfl, Nat.le_refl _, Nat.zero_le _, ⟨hl, Or.inl rfl⟩, fun ad e => by cases e⟩
  · refine ⟨some ⟨g, 0, none⟩, cap, rfl, hnc, hcm, ⟨hl, Or.inr ⟨g, 0, rfl, (Array.getElem?_eq_some_iff.1 hg).1, fun t ht => ?_⟩⟩, fun ad e => by cases e; exact ⟨cur, (0, 0), hg⟩⟩
    rw [cell_of_row w g (0 + t) cur _ (0, 0) hg, Nat.zero_add]
    have h1 : (iC l)[t]? = cur.toList[t]? := by
      rw [← htk, List.getElem?_take, if_pos (by omega)]
    rw [← Array.getElem?_toList, ← h1]
    simp only [iC, List.getElem?_map, List.getD_eq_getElem?_getD]
    rw [List.getElem?_eq_getElem (by omega)]
    rfl
theorem new_i (w : World) (x : Int) (e : TypeId) : ∀ j u, ([Value.int .i64 x] : List Value)[j]? = some u → (w.alloc (.cells #[.int .i64 x] e)).cell? ((⟨w.heap.size, 0, none⟩ : Addr).add j) = some u := by
  intro j u hu
  have hadd : (⟨w.heap.size, 0, none⟩ : Addr).add j = ⟨w.heap.size, j, none⟩ := by unfold Addr.add; split <;> simp_all
  rw [hadd, cell_of_row _ _ j _ _ (0, 0) (heap_alloc_new w _)]
  match j, hu with
  | 0, hu => simpa using hu
  | k + 1, hu => simp at hu
theorem one_i (x : Int) : ∀ u ∈ ([Value.int .i64 x] : List Value), u.oneCell' = true := by
  intro u hu
  simp only [List.mem_singleton] at hu
  subst hu
  rfl
theorem own_lt {w : World} {base n size : Nat} {v : Value} {xs : List Value} {e : TypeId} (h : w.ownsRow base e size v n xs) : ∀ k, v.ownBlock = some k → base ≤ k ∧ k < w.heap.size := by
  intro k hk
  rcases h.2 with ⟨rfl, _⟩ | ⟨g, cap, cur, rfl, hb, hg, _⟩
  · simp [Value.ownBlock] at hk
  · simp [Value.ownBlock] at hk
    subst hk
    exact ⟨hb, (Array.getElem?_eq_some_iff.1 hg).1⟩

set_option maxHeartbeats 2000000 in
theorem copyInts_any (ao : Option Addr) (n c : Nat) (l : List Int) (w : World) (h : IntsAt w ao n l) (hb : n * 8 ≤ 140737488355328) :
    Calls Tryd.prog 66 #[.slice ao n c] w fun e w' => (∃ (a' : Option Addr) (c' : Nat), e = .returned (.slice a' n c') ∧ n ≤ c' ∧ c' ≤ maxLen ∧ IntsAt w' a' n l ∧ TyI w' a') ∧ Ext w w' := by
  obtain ⟨i0, hi, hz0, hz1, hz2⟩ := info_parts i_info
  have Hl := Lib.hid h.1
  have H := Lib.hid h
  clear h
  go_enter Tryd.func66, Tryd.ntmps66
  go_wp2_with fail
  go_loopg [3, 4] n (fun k s3 s4 wr => Ext w wr ∧ ∃ i : Nat, s4 = .int .i64 (i : Int) ∧ i ≤ n ∧ n - i = k ∧ wr.ownsRow w.heap.size 3 1 s3 i (iC (l.take i)))
  case atStart => exact ⟨Ext.refl _, 0, rfl, by omega, by omega, ⟨rfl, Or.inl ⟨rfl, rfl⟩⟩⟩
  case round =>
    obtain ⟨hER, i, rfl, hi', hk, hown⟩ := hrel
    have HER := Lib.hid hER; have Hown := Lib.hid hown
    clear hER hown
    by_cases hin : i = n
    · have h2 : ¬ (i : Int) < (n : Int) := by omega
      have ho := Hown.out
      rw [List.take_of_length_le (by rw [Hl.out]; omega), hin] at ho
      obtain ⟨a', c', e, e1, e2, e3, e4⟩ := ints_of_own ho
      subst e
      have HI := Lib.hid e3; have HT := Lib.hid e4; have He1 := Lib.hid e1; have He2 := Lib.hid e2
      clear ho e1 e2 e3 e4 Hown
      go_wp2_with fail
      go_ret
      exact ⟨⟨a', c', rfl, He1.out, He2.out, HI.out, HT.out⟩, HER.out⟩
    · have h2 : (i : Int) < (n : Int) := by omega
      have h0 : (0 : Int) ≤ (i : Int) := by omega
      obtain ⟨b, o, rfl, hbl, hcell⟩ := (H.out.ext HER.out).at (by omega)
      have hci := hcell i (by omega)
      obtain ⟨y, hy⟩ : ∃ y, l.getD i 0 = y := ⟨_, rfl⟩
      rw [hy] at hci
      have hst : iC (l.take (i + 1)) = iC (l.take i) ++ [.int .i64 y] := by
        rw [← hy, List.take_add_one, List.getElem?_eq_getElem (by rw [Hl.out]; omega), ← iC_snoc, List.getD_eq_getElem?_getD, List.getElem?_eq_getElem (by rw [Hl.out]; omega)]
        rfl
      have Hst := Lib.hid hst
      clear hcell hy hst hbl
      go_wp2_with (at_builtin; refine wpList_append_own _ rfl _ _ 32 rfl w.heap.size 3 i0 (.int .i64 0) 1 8 Tryd.underlying32 hi hz0 hz1 hz2 rfl (by decide) _ i (iC (l.take i)) rfl (Hown.out.alloc _) ⟨wr.heap.size, 0, none⟩ 1 1 [.int .i64 y] rfl rfl (new_i wr y _) (one_i y) (by unfold maxLen; omega) (by omega) (Nat.le_trans HER.out.size (ext_al wr _).size) ?_; intro v' w7 hown' hgrow' _)
      go_roundg (n - (i + 1))
      case measure => omega
      case rel => exact ⟨grown_ext (HER.out.trans (ext_al wr _)) hgrow' (fun k hk => (own_lt Hown.out k hk).1), i + 1, by go_num, by omega, rfl, by rw [Hst.out]; exact hown'⟩


theorem put6 {w W : World} {g : Nat} (h : Ext w W) (hg : w.heap.size ≤ g) (u0 u1 u2 u3 u4 u5 : Value) : Ext w ((((((W.setCell ⟨g, 0, none⟩ u0).setCell ⟨g, 1, none⟩ u1).setCell ⟨g, 2, none⟩ u2).setCell ⟨g, 3, none⟩ u3).setCell ⟨g, 4, none⟩ u4).setCell ⟨g, 5, none⟩ u5) :=
  Below.setCell (Below.setCell (Below.setCell (Below.setCell (Below.setCell (Below.setCell h (p := ⟨g, 0, none⟩) hg _) (p := ⟨g, 1, none⟩) hg _) (p := ⟨g, 2, none⟩) hg _) (p := ⟨g, 3, none⟩) hg _) (p := ⟨g, 4, none⟩) hg _) (p := ⟨g, 5, none⟩) hg _

/-- An operation whose lists are its own. -/
structure OpO (w : World) (o : Gop) (a1 : Option Addr) (n1 c1 : Nat) (a2 : Option Addr) (n2 c2 : Nat) : Prop where
  l : OpL w o a1 n1 c1 a2 n2 c2
  t1 : TyI w a1
  t2 : TyI w a2
section
variable {w w' : World} {o : Gop} {a1 : Option Addr} {n1 c1 : Nat} {a2 : Option Addr} {n2 c2 : Nat}
theorem OpO.ext (h : OpO w o a1 n1 c1 a2 n2 c2) (k : Ext w w') : OpO w' o a1 n1 c1 a2 n2 c2 := ⟨h.l.ext k, h.t1.ext k, h.t2.ext k⟩
theorem OpO.keep (h : OpO w o a1 n1 c1 a2 n2 c2) (hs : w.heap.size ≤ w'.heap.size) (hk : ∀ (b : Nat) (cur : Array Value) (fr : Nat × Nat), w.heap[b]? = some (.cells cur 3 fr) → w'.heap[b]? = w.heap[b]?) : OpO w' o a1 n1 c1 a2 n2 c2 :=
  ⟨⟨h.l.i1.keep h.t1 hs hk, h.l.h1, h.l.m1, h.l.i2.keep h.t2 hs hk, h.l.h2, h.l.m2⟩, h.t1.keep hk, h.t2.keep hk⟩
end
/-- A block of another kind is written. -/
theorem only_ints {w w' : World} {g : Nat} {cs : Array Value} {T : TypeId} {fr : Nat × Nat} (hg : w.heap[g]? = some (.cells cs T fr)) (hT : T ≠ 3) (hO : Only g w w') : ∀ (b : Nat) (cur : Array Value) (fr : Nat × Nat), w.heap[b]? = some (.cells cur 3 fr) → w'.heap[b]? = w.heap[b]? := by
  intro b cur fr' hb
  refine hO.block b (fun e => ?_)
  rw [e, hg] at hb
  cases hb
  exact hT rfl
theorem only1 (w : World) (g o : Nat) (u : Value) : Only g w (w.setCell ⟨g, o, none⟩ u) := (Only.refl _ _).setCell _ _
theorem onl6 (w : World) (g : Nat) (u0 u1 u2 u3 u4 u5 : Value) : Only g w ((((((w.setCell ⟨g, 0, none⟩ u0).setCell ⟨g, 1, none⟩ u1).setCell ⟨g, 2, none⟩ u2).setCell ⟨g, 3, none⟩ u3).setCell ⟨g, 4, none⟩ u4).setCell ⟨g, 5, none⟩ u5) := ((((((Only.refl _ _).setCell _ _).setCell _ _).setCell _ _).setCell _ _).setCell _ _).setCell _ _
theorem OpBx.set2 {W : World} {g : Nat} {k0 k1 : Int} {a1 : Option Addr} {n1 c1 : Nat} {k3 k4 : Int} {a2 : Option Addr} {n2 c2 : Nat} (h : OpBx W g k0 k1 a1 n1 c1 k3 k4 a2 n2 c2) (a : Option Addr) (n c : Nat) : OpBx (W.setCell ⟨g, 2, none⟩ (.slice a n c)) g k0 k1 a n c k3 k4 a2 n2 c2 := ⟨heap_setCell_same W g 2 _ _ (.slice a n c) h.row⟩
theorem OpBx.set5 {W : World} {g : Nat} {k0 k1 : Int} {a1 : Option Addr} {n1 c1 : Nat} {k3 k4 : Int} {a2 : Option Addr} {n2 c2 : Nat} (h : OpBx W g k0 k1 a1 n1 c1 k3 k4 a2 n2 c2) (a : Option Addr) (n c : Nat) : OpBx (W.setCell ⟨g, 5, none⟩ (.slice a n c)) g k0 k1 a1 n1 c1 k3 k4 a n c := ⟨heap_setCell_same W g 5 _ _ (.slice a n c) h.row⟩

set_option maxHeartbeats 2000000 in
set_option maxRecDepth 100000 in
theorem copyOp_any (o : Gop) (a1 : Option Addr) (n1 c1 : Nat) (a2 : Option Addr) (n2 c2 : Nat) (w : World) (h : OpL w o a1 n1 c1 a2 n2 c2) (hb1 : n1 * 8 ≤ 140737488355328) (hb2 : n2 * 8 ≤ 140737488355328) :
    Calls Tryd.prog 40 #[.agg #[.int .i64 o.kind, .int .i64 o.k, .slice a1 n1 c1, .int .i64 o.q, .int .i64 o.bit, .slice a2 n2 c2]] w fun e w' => (∃ (a1' : Option Addr) (c1' : Nat) (a2' : Option Addr) (c2' : Nat), e = .returned (.agg #[.int .i64 o.kind, .int .i64 o.k, .slice a1' n1 c1', .int .i64 o.q, .int .i64 o.bit, .slice a2' n2 c2']) ∧ OpO w' o a1' n1 c1' a2' n2 c2') ∧ Ext w w' := by
  obtain ⟨kd, k, ctl, q, bt, cnd⟩ := o
  have E0 := (ext_al w (.cells #[.int .i64 kd, .int .i64 k, .slice a1 n1 c1, .int .i64 q, .int .i64 bt, .slice a2 n2 c2] 58)).trans (ext_al _ (.cells #[.int .i64 0, .int .i64 0, .slice none 0 0, .int .i64 0, .int .i64 0, .slice none 0 0] 58))
  have bx := (opbx_new w kd k a1 n1 c1 q bt a2 n2 c2).ext (ext_al _ (.cells #[.int .i64 0, .int .i64 0, .slice none 0 0, .int .i64 0, .int .i64 0, .slice none 0 0] 58))
  have br := opbx_new (w.alloc (.cells #[.int .i64 kd, .int .i64 k, .slice a1 n1 c1, .int .i64 q, .int .i64 bt, .slice a2 n2 c2] 58)) 0 0 none 0 0 0 0 none 0 0
  rw [show (w.alloc (.cells #[.int .i64 kd, .int .i64 k, .slice a1 n1 c1, .int .i64 q, .int .i64 bt, .slice a2 n2 c2] 58)).heap.size = w.heap.size + 1 from by simp] at br
  have HE0 := Lib.hid E0; have HL := Lib.hid (h.ext E0); have H0 := Lib.hid h; have Hbx := Lib.hid bx; have Hbr := Lib.hid br
  have m2 := bx.x2
  simp only
  clear h E0 bx br
  go_enter Tryd.func40, Tryd.ntmps40
  go_wp2_with fail
  generalize (w.alloc (.cells #[.int .i64 kd, .int .i64 k, .slice a1 n1 c1, .int .i64 q, .int .i64 bt, .slice a2 n2 c2] 58)).alloc (.cells #[.int .i64 0, .int .i64 0, .slice none 0 0, .int .i64 0, .int .i64 0, .slice none 0 0] 58) = W0 at *
  clear m2
  refine (copyInts_any a1 n1 c1 ctl W0 HL.out.i1 hb1).mono ?_
  rintro e w1 ⟨⟨a3, c3, rfl, l3, m3, I3, T3⟩, hx1⟩
  have b1 := Hbx.out.ext hx1
  have y2 := b1.x2; have y5 := b1.x5; have f2 := b1.f 2
  have b2 := b1.set2 a3 n1 c3
  have hk1 := only_ints b1.row (by decide) (only1 w1 w.heap.size 2 (.slice a3 n1 c3))
  have I4 := I3.keep T3 (by simp) hk1
  have T4 := T3.keep hk1
  have HE1 := Lib.hid (p := Ext w _) (Below.setCell (HE0.out.trans hx1) (p := ⟨w.heap.size, 2, none⟩) (Nat.le_refl _) (.slice a3 n1 c3))
  have br2 : OpBx (w1.setCell ⟨w.heap.size, 2, none⟩ (.slice a3 n1 c3)) (w.heap.size + 1) 0 0 none 0 0 0 0 none 0 0 := ⟨((only1 w1 w.heap.size 2 (.slice a3 n1 c3)).block _ (by omega)).trans (Hbr.out.ext hx1).row⟩
  have J2 := H0.out.i2.ext HE1.out
  have z5 := b2.x5
  have Hb2 := Lib.hid b2; have Hbr2 := Lib.hid br2; have HI4 := Lib.hid I4; have HT4 := Lib.hid T4; have HJ2 := Lib.hid J2
  clear b1 b2 br2 I3 T3 I4 T4 J2 hk1 HL
  go_wp2_with fail
  generalize w1.setCell ⟨w.heap.size, 2, none⟩ (.slice a3 n1 c3) = W2 at *
  clear y2 y5 f2 z5
  refine (copyInts_any a2 n2 c2 cnd W2 HJ2.out hb2).mono ?_
  rintro e w3 ⟨⟨a5, c5, rfl, l5, m5, I5, T5⟩, hx3⟩
  have b3 := Hb2.out.ext hx3
  have y5 := b3.x5; have f5 := b3.f 5
  have b4 := b3.set5 a5 n2 c5
  have hk3 := only_ints b3.row (by decide) (only1 w3 w.heap.size 5 (.slice a5 n2 c5))
  have I6 := (HI4.out.ext hx3).keep (HT4.out.ext hx3) (by simp) hk3
  have T6 := (HT4.out.ext hx3).keep hk3
  have I7 := I5.keep T5 (by simp) hk3
  have T7 := T5.keep hk3
  have HE3 := Lib.hid (p := Ext w _) (Below.setCell (Ext.trans HE1.out hx3) (p := ⟨w.heap.size, 5, none⟩) (Nat.le_refl _) (.slice a5 n2 c5))
  have br4 : OpBx (w3.setCell ⟨w.heap.size, 5, none⟩ (.slice a5 n2 c5)) (w.heap.size + 1) 0 0 none 0 0 0 0 none 0 0 := ⟨((only1 w3 w.heap.size 5 (.slice a5 n2 c5)).block _ (by omega)).trans (Hbr2.out.ext hx3).row⟩
  have hk4 := only_ints br4.row (by decide) (onl6 (w3.setCell ⟨w.heap.size, 5, none⟩ (.slice a5 n2 c5)) (w.heap.size + 1) (.int .i64 kd) (.int .i64 k) (.slice a3 n1 c3) (.int .i64 q) (.int .i64 bt) (.slice a5 n2 c5))
  have HI8 := Lib.hid (I6.keep T6 (by simp) hk4); have HT8 := Lib.hid (T6.keep hk4); have HI9 := Lib.hid (I7.keep T7 (by simp) hk4); have HT9 := Lib.hid (T7.keep hk4)
  have p0 := b4.x0; have p1 := b4.x1; have p2 := b4.x2; have p3 := b4.x3; have p4 := b4.x4; have p5 := b4.x5
  have r0 := br4.x0; have r1 := br4.x1; have r2 := br4.x2; have r3 := br4.x3; have r4 := br4.x4; have r5 := br4.x5
  have g0 := br4.f 0; have g1 := br4.f 1; have g2 := br4.f 2; have g3 := br4.f 3; have g4 := br4.f 4; have g5 := br4.f 5
  clear b3 b4 br4 I5 T5 I6 T6 I7 T7 hk3 hk4 hx3 hx1
  go_wp2_with fail
  exact bodyPost_ret (v := .agg #[.int .i64 kd, .int .i64 k, .slice a3 n1 c3, .int .i64 q, .int .i64 bt, .slice a5 n2 c5]) (by simp [results, Tryd.results40, go_sem, r0, r1, r2, r3, r4, r5]) rfl ⟨⟨a3, c3, a5, c5, rfl, ⟨⟨HI8.out, l3, by unfold maxLen at m3; omega, HI9.out, l5, by unfold maxLen at m5; omega⟩, HT8.out, HT9.out⟩⟩, put6 HE3.out (by omega) _ _ _ _ _ _⟩

end Go.Proofs.YtfjbhiihfibbaaaDoor

/-
  What an operation touches, as the reference lists it.
-/
namespace Go.Proofs.YtfjbhiihfibbaaaDoor
open Go.RowKit

/-- The bit that a term names. -/
def bitOf (t : Int) : Int := if 0 < t then t - 1 else -t - 1
def tchQ (kd q : Int) : List Int := if kd = 1 then [] else [q]
def tchB (z kd bt : Int) : List Int := if kd = 5 then [z + bt] else []
def tchC (z : Int) (l : List Int) : List Int := l.map fun t => z + bitOf t
theorem tchQ_len (kd q : Int) : (tchQ kd q).length ≤ 1 := by unfold tchQ; split <;> simp
theorem tchB_len (z kd bt : Int) : (tchB z kd bt).length ≤ 1 := by unfold tchB; split <;> simp
theorem tchC_len (z : Int) (l : List Int) : (tchC z l).length = l.length := by simp [tchC]
theorem take_succ' (l : List Int) (i : Nat) (h : i < l.length) : l.take (i + 1) = l.take i ++ [l.getD i 0] := by
  rw [List.take_add_one, List.getElem?_eq_getElem h, List.getD_eq_getElem?_getD, List.getElem?_eq_getElem h]
  rfl
theorem own_snoc {w : World} {base : Nat} {v : Value} {L : List Int} {y : Int} (h : w.ownsRow base 3 1 v (L.length + 1) (iC L ++ [.int .i64 y])) : w.ownsRow base 3 1 v (L ++ [y]).length (iC (L ++ [y])) := by
  rw [iC_snoc, show (L ++ [y]).length = L.length + 1 by simp]; exact h
theorem OpBx_grown {a w' : World} {v : Value} {base n size : Nat} {xs : List Value} {e : TypeId} {g : Nat} {k0 k1 : Int} {a1 : Option Addr} {n1 c1 : Nat} {k3 k4 : Int} {a2 : Option Addr} {n2 c2 : Nat} (hg : a.grownBy w' v.ownBlock) (ho : a.ownsRow base e size v n xs) (h : OpBx a g k0 k1 a1 n1 c1 k3 k4 a2 n2 c2) (hb : g < base) : OpBx w' g k0 k1 a1 n1 c1 k3 k4 a2 n2 c2 :=
  ⟨(hg.block g h.lt (fun e => by have := (own_lt ho g e.symm).1; omega)).trans h.row⟩

end Go.Proofs.YtfjbhiihfibbaaaDoor

/-
  What an operation touches, as the program lists it.
-/
namespace Go.Proofs.YtfjbhiihfibbaaaDoor
open Go.RowKit

set_option maxHeartbeats 400000 in
theorem condition_any (t : Int) (w : World) (h : -12 ≤ t ∧ t ≤ 12) : Calls Tryd.prog 88 #[.int .i64 t] w fun e w' => e = .returned (.tuple #[.int .i64 (bitOf t), .bool (decide (0 ≤ t))]) ∧ w' = w := by
  by_cases h0 : t < 0
  · have e1 : bitOf t = -t - 1 := by unfold bitOf; rw [if_neg (by omega)]
    have hw1 : IntKind.i64.wrap (-t) = -t := by rw [IntKind.wrap_i64]; omega
    have hw2 : IntKind.i64.wrap (-t - 1) = -t - 1 := by rw [IntKind.wrap_i64]; omega
    have e2 := df (show ¬ 0 ≤ t by omega)
    rw [e1, e2]
    clear e1 e2
    go_enter Tryd.func88, Tryd.ntmps88
    go_wp2_with fail
    exact bodyPost_ret (v := .tuple #[.int .i64 (-t - 1), .bool false]) (by simp [results, Tryd.results88, go_sem]) rfl ⟨rfl, rfl⟩
  · have e1 : bitOf t = t - 1 := by unfold bitOf; split <;> omega
    have hw2 : IntKind.i64.wrap (t - 1) = t - 1 := by rw [IntKind.wrap_i64]; omega
    have e2 := dt (show 0 ≤ t by omega)
    rw [e1, e2]
    clear e1 e2
    go_enter Tryd.func88, Tryd.ntmps88
    go_wp2_with fail
    exact bodyPost_ret (v := .tuple #[.int .i64 (t - 1), .bool true]) (by simp [results, Tryd.results88, go_sem]) rfl ⟨rfl, rfl⟩

set_option maxHeartbeats 1000000 in
theorem copyList_any (ao : Option Addr) (n c : Nat) (l : List Int) (w : World) (h : IntsAt w ao n l) (hb : n * 8 ≤ 140737488355328) :
    Calls Tryd.prog 82 #[.slice ao n c] w fun e w' => ∃ v' : Value, e = .returned v' ∧ w'.ownsRow w.heap.size 3 1 v' n (iC l) ∧ Ext w w' := by
  obtain ⟨i0, hi, hz0, hz1, hz2⟩ := info_parts i_info
  have Hl := Lib.hid h.1
  by_cases hn : n = 0
  · subst hn
    have hl0 : l = [] := List.eq_nil_of_length_eq_zero Hl.out
    subst hl0
    clear h hi hz0 hz1 hz2
    cases ao
    · go_enter Tryd.func82, Tryd.ntmps82
      go_wp2_with fail
      go_ret
      exact ⟨_, rfl, ⟨rfl, Or.inl ⟨rfl, rfl⟩⟩, Ext.refl _⟩
    · go_enter Tryd.func82, Tryd.ntmps82
      go_wp2_with fail
      go_ret
      exact ⟨_, rfl, ⟨rfl, Or.inl ⟨rfl, rfl⟩⟩, Ext.refl _⟩
  · obtain ⟨b, o, rfl, hbl, hcell⟩ := h.at (by omega)
    have hnews : ∀ j u, (iC l)[j]? = some u → w.cell? ((⟨b, o, none⟩ : Addr).add j) = some u := by
      intro j u hu
      have hj : j < l.length := by have := (List.getElem?_eq_some_iff.1 hu).1; simpa [iC] using this
      have hadd : (⟨b, o, none⟩ : Addr).add j = ⟨b, o + j, none⟩ := by unfold Addr.add; split <;> simp_all
      rw [hadd, hcell j (by rw [← Hl.out]; exact hj), ← hu]
      simp only [iC, List.getElem?_map, List.getD_eq_getElem?_getD]
      rw [List.getElem?_eq_getElem hj]
      rfl
    have h1 : ∀ u ∈ iC l, u.oneCell' = true := by
      intro u hu
      obtain ⟨x, _, rfl⟩ := List.mem_map.1 hu
      rfl
    have hown : w.ownsRow w.heap.size 3 1 (.slice none 0 0) 0 [] := ⟨rfl, Or.inl ⟨rfl, rfl⟩⟩
    have Hnews := Lib.hid hnews; have H1 := Lib.hid h1; have Hown := Lib.hid hown
    have hll : (iC l).length = n * 1 := by rw [iC_length, Hl.out, Nat.mul_one]
    have Hll := Lib.hid hll
    clear h hcell hnews h1 hown hbl hll
    go_enter Tryd.func82, Tryd.ntmps82
    go_wp2_with (at_builtin; refine wpList_append_own _ rfl _ _ 32 rfl w.heap.size 3 i0 (.int .i64 0) 1 8 Tryd.underlying32 hi hz0 hz1 hz2 rfl (by decide) _ 0 [] rfl Hown.out ⟨b, o, none⟩ n c (iC l) rfl Hll.out Hnews.out H1.out (by unfold maxLen; omega) (by omega) (Nat.le_refl _) ?_; intro v' w7 hown' hgrow' _)
    go_ret
    exact ⟨_, rfl, by simpa using hown', grown_ext (Ext.refl _) hgrow' (fun k hk => by cases hk)⟩

end Go.Proofs.YtfjbhiihfibbaaaDoor
