/-
  What an operation touches, as the program lists it: the walk.
-/
import Derived.Test.YtcbgonjgmbcbgabDoorMCi

namespace Go.Proofs.YtcbgonjgmbcbgabDoor
open Go.RowKit

theorem row_ext {w w' : World} {g : Nat} {cs : Array Value} {T : TypeId} {fr : Nat × Nat} (h : w.heap[g]? = some (.cells cs T fr)) (k : Ext w w') : w'.heap[g]? = some (.cells cs T fr) := (k.block g (Array.getElem?_eq_some_iff.1 h).1).trans h
theorem row_grown {a w' : World} {v : Value} {base n size : Nat} {xs : List Value} {e : TypeId} {g : Nat} {cs : Array Value} {T : TypeId} {fr : Nat × Nat} (hg : a.grownBy w' v.ownBlock) (ho : a.ownsRow base e size v n xs) (h : a.heap[g]? = some (.cells cs T fr)) (hT : T ≠ e) : w'.heap[g]? = some (.cells cs T fr) := by
  refine (hg.block g (Array.getElem?_eq_some_iff.1 h).1 (fun eq => ?_)).trans h
  rcases ho.2 with ⟨rfl, _⟩ | ⟨g', cap, cur, rfl, _, hg', _⟩
  · cases eq
  · simp [Value.ownBlock] at eq
    subst eq
    rw [h] at hg'
    cases hg'
    exact hT rfl

set_option maxHeartbeats 4000000 in
set_option maxRecDepth 100000 in
theorem touched_any (o : Gop) (a1 : Option Addr) (n1 c1 : Nat) (a2 : Option Addr) (n2 c2 : Nat) (w : World) (h : OpL w o a1 n1 c1 a2 n2 c2) (hS : Shp w) (hkd : 1 ≤ o.kind ∧ o.kind ≤ 6) (hb1 : (n1 + 26) * 8 ≤ 140737488355328) (hb2 : n2 ≤ 24) (hbt : 0 ≤ o.bit ∧ o.bit ≤ 12) (hcn : ∀ t ∈ o.cnd, -12 ≤ t ∧ t ≤ 12) :
    Calls Tryd.prog 37 #[.agg #[.int .i64 o.kind, .int .i64 o.k, .slice a1 n1 c1, .int .i64 o.q, .int .i64 o.bit, .slice a2 n2 c2]] w fun e w' => (∃ (a' : Option Addr) (m c' : Nat), e = .returned (.slice a' m c') ∧ m ≤ c' ∧ c' ≤ maxLen ∧ IntsAt w' a' m (o.ctl ++ tchQ o.kind o.q ++ tchB 12 o.kind o.bit ++ tchC 12 o.cnd) ∧ ∀ b o, a' = some ⟨b, o, none⟩ → w.heap.size ≤ b) ∧ Ext w w' := by
  obtain ⟨i0, hi, hz0, hz1, hz2⟩ := info_parts i_info
  obtain ⟨kd, k, ctl, q, bt, cnd⟩ := o
  simp only at hkd hbt hcn ⊢
  obtain ⟨kn, rfl⟩ : ∃ kn : Nat, kd = (kn : Int) := ⟨kd.toNat, by omega⟩
  have E0 := ext_al w (.cells #[.int .i64 (kn : Int), .int .i64 k, .slice a1 n1 c1, .int .i64 q, .int .i64 bt, .slice a2 n2 c2] 43)
  have bx := opbx_new w (kn : Int) k a1 n1 c1 q bt a2 n2 c2
  have HE0 := Lib.hid E0; have HL := Lib.hid h; have Hbx0 := Lib.hid bx
  have Hl1 := Lib.hid h.i1.1; have Hl2 := Lib.hid h.i2.1; have Hcn := Lib.hid hcn
  have HS0 := Lib.hid (hS.ext E0)
  have m2 := bx.x2
  obtain ⟨base, hbase⟩ : ∃ base, (w.alloc (.cells #[.int .i64 (kn : Int), .int .i64 k, .slice a1 n1 c1, .int .i64 q, .int .i64 bt, .slice a2 n2 c2] 43)).heap.size = base := ⟨_, rfl⟩
  have hbase' : w.heap.size + 1 = base := by rw [← hbase]; simp
  have lQ := tchQ_len (kn : Int) q; have lB := tchB_len 12 (kn : Int) bt
  have HCL := Lib.hid (copyList_any a1 n1 c1 ctl (w.alloc (.cells #[.int .i64 (kn : Int), .int .i64 k, .slice a1 n1 c1, .int .i64 q, .int .i64 bt, .slice a2 n2 c2] 43)) (h.i1.ext E0) (by omega))
  rw [hbase] at HCL
  simp only at Hl1 Hl2 HL
  obtain ⟨R, hR⟩ : ∃ R, ctl ++ tchQ (kn : Int) q ++ tchB 12 (kn : Int) bt ++ tchC 12 cnd = R := ⟨_, rfl⟩
  rw [hR]
  have HR := Lib.hid hR
  have Hbase := Lib.hid hbase
  clear h E0 bx hcn hR hS hbase
  go_enter Tryd.func37, Tryd.ntmps37
  go_wp2_with fail
  generalize w.alloc (.cells #[.int .i64 (kn : Int), .int .i64 k, .slice a1 n1 c1, .int .i64 q, .int .i64 bt, .slice a2 n2 c2] 43) = W0 at *
  clear m2
  refine HCL.out.mono ?_
  rintro e w1 ⟨v1, rfl, ho1, hx1⟩
  have b1 := Hbx0.out.ext hx1
  have y0 := b1.x0
  obtain ⟨t0, t1, t2, t3, t4⟩ := (HS0.out.ext hx1) kn (by omega) (by omega)
  obtain ⟨uK, huK⟩ : ∃ x, usesK (kn : Int) = x := ⟨_, rfl⟩
  obtain ⟨uQ, huQ⟩ : ∃ x, usesQ (kn : Int) = x := ⟨_, rfl⟩
  obtain ⟨uC, huC⟩ : ∃ x, usesC (kn : Int) = x := ⟨_, rfl⟩
  obtain ⟨uB, huB⟩ : ∃ x, usesB (kn : Int) = x := ⟨_, rfl⟩
  obtain ⟨wd, hwd⟩ : ∃ x, wordOf kn = x := ⟨_, rfl⟩
  rw [huK] at t1; rw [huQ] at t2; rw [huC] at t3; rw [huB] at t4; rw [hwd] at t0
  have HuQ := Lib.hid huQ; have HuB := Lib.hid huB
  have j0 : (0 : Int) ≤ (kn : Int) := by omega
  have j1 : (kn : Int) < 7 := by omega
  have Es := ext_al w1 (.cells #[.string wd, .bool uK, .bool uQ, .bool uC, .bool uB] 72)
  have ub : (w1.alloc (.cells #[.string wd, .bool uK, .bool uQ, .bool uC, .bool uB] 72)).heap[w1.heap.size]? = some (.cells #[.string wd, .bool uK, .bool uQ, .bool uC, .bool uB] 72 (0, 0)) := heap_alloc_new w1 _
  have HE := Lib.hid (HE0.out.trans (hx1.trans Es)); have Hbx := Lib.hid (b1.ext Es); have Hub := Lib.hid ub
  rw [← Hl1.out] at ho1
  have Hown := Lib.hid (ho1.alloc (.cells #[.string wd, .bool uK, .bool uQ, .bool uC, .bool uB] 72))
  have hbs : base ≤ (w1.alloc (.cells #[.string wd, .bool uK, .bool uQ, .bool uC, .bool uB] 72)).heap.size := by have := Hbase.out; have := hx1.size; simp; omega
  have s2 : (w1.alloc (.cells #[.string wd, .bool uK, .bool uQ, .bool uC, .bool uB] 72)).cell? ⟨w1.heap.size, 2, none⟩ = some (.bool uQ) := by rw [cell_of_row _ _ 2 _ _ (0, 0) ub]; rfl
  have y3 := (b1.ext Es).x3
  clear huK huQ huC huB hwd ub b1 ho1 HCL HE0 Hbx0 HS0 Es
  go_upto_if 17 with fail
  generalize w1.alloc (.cells #[.string wd, .bool uK, .bool uQ, .bool uC, .bool uB] 72) = W2 at *
  generalize w1.heap.size = UB at *
  clear y0 t0 t1 t2 t3 t4
  go_cut [3] from 16 to 22 (fun s3 wx => Ext w wx ∧ OpBx wx w.heap.size (kn : Int) k a1 n1 c1 q bt a2 n2 c2 ∧ wx.heap[UB]? = some (.cells #[.string wd, .bool uK, .bool uQ, .bool uC, .bool uB] 72 (0, 0)) ∧ wx.ownsRow base 3 1 s3 (ctl ++ tchQ (kn : Int) q).length (iC (ctl ++ tchQ (kn : Int) q)) ∧ base ≤ wx.heap.size)
  case first =>
    cases uQ
    · have hL : tchQ (kn : Int) q = [] := by
        have := HuQ.out
        unfold tchQ; rw [if_pos (by simpa [usesQ] using this)]
      have HL' := Lib.hid hL
      clear hL
      go_wp2_with fail
      go_meet
      exact ⟨HE.out, Hbx.out, Hub.out, by rw [HL'.out, List.append_nil]; exact Hown.out, hbs⟩
    · have hL : tchQ (kn : Int) q = [q] := by
        have := HuQ.out
        unfold tchQ; rw [if_neg (by simpa [usesQ] using this)]
      have HL' := Lib.hid hL
      have hlen := Hl1.out
      clear hL
      go_wp2_with (at_builtin; refine wpList_append_own _ rfl _ _ 41 rfl base 3 i0 (.int .i64 0) 1 8 Tryd.underlying41 hi hz0 hz1 hz2 rfl (by decide) _ (ctl).length (iC (ctl)) rfl (Hown.out.alloc _) ⟨W2.heap.size, 0, none⟩ 1 1 [.int .i64 (q)] rfl rfl (new_i W2 (q) _) (one_i (q)) (by unfold maxLen; omega) (by omega) (Nat.le_trans hbs (ext_al W2 _).size) ?_; intro v' w7 hown' hgrow' _)
      have ho5 := Hown.out.alloc (.cells #[.int .i64 q] 3)
      have hE7 : Ext w w7 := grown_ext (Ext.trans HE.out (ext_al _ _)) hgrow' (fun k hk => by have := (own_lt ho5 k hk).1; omega)
      have b7 := OpBx_grown hgrow' ho5 (Hbx.out.ext (ext_al _ _)) (by omega)
      have hs7 : base ≤ w7.heap.size := Nat.le_trans (Nat.le_trans hbs (ext_al W2 _).size) hgrow'.size
      have u7 := row_grown hgrow' ho5 (row_ext Hub.out (ext_al W2 (.cells #[.int .i64 q] 3))) (by decide)
      go_meet
      exact ⟨hE7, b7, u7, by rw [HL'.out]; exact own_snoc hown', hs7⟩
  case rest =>
  clear HE Hbx Hub Hown hbs s2 y3
  obtain ⟨hE1, b1, u1, ho1, hs1⟩ := hcut
  obtain ⟨L1, hL1⟩ : ∃ L, ctl ++ tchQ (kn : Int) q = L := ⟨_, rfl⟩
  rw [hL1] at ho1 HR
  have lL1 : L1.length ≤ n1 + 1 := by rw [← hL1, List.length_append, Hl1.out]; omega
  have HE := Lib.hid hE1; have Hbx := Lib.hid b1; have Hub := Lib.hid u1; have Hown := Lib.hid ho1
  have hbs := hs1
  have s4 : wc.cell? ⟨UB, 4, none⟩ = some (.bool uB) := by rw [cell_of_row _ _ 4 _ _ (0, 0) u1]; rfl
  have y4 := b1.x4
  clear hE1 b1 u1 ho1 hs1 hL1
  go_upto_if 24 with fail
  go_cut [3] from 23 to 30 (fun s3 wx => Ext w wx ∧ OpBx wx w.heap.size (kn : Int) k a1 n1 c1 q bt a2 n2 c2 ∧ wx.ownsRow base 3 1 s3 (L1 ++ tchB 12 (kn : Int) bt).length (iC (L1 ++ tchB 12 (kn : Int) bt)) ∧ base ≤ wx.heap.size)
  case first =>
    cases uB
    · have hL : tchB 12 (kn : Int) bt = [] := by
        have := HuB.out
        unfold tchB; rw [if_neg (by simpa [usesB] using this)]
      have HL' := Lib.hid hL
      clear hL
      go_wp2_with fail
      go_meet
      exact ⟨HE.out, Hbx.out, by rw [HL'.out, List.append_nil]; exact Hown.out, hbs⟩
    · have hL : tchB 12 (kn : Int) bt = [12 + bt] := by
        have := HuB.out
        unfold tchB; rw [if_pos (by simpa [usesB] using this)]
      have HL' := Lib.hid hL
      obtain ⟨yy, hyy⟩ : ∃ yy, 12 + bt = yy := ⟨_, rfl⟩
      have hw1 : IntKind.i64.wrap (12 + bt) = yy := by rw [IntKind.wrap_i64]; omega
      rw [hyy] at HL'
      clear hL hyy
      go_wp2_with (at_builtin; refine wpList_append_own _ rfl _ _ 41 rfl base 3 i0 (.int .i64 0) 1 8 Tryd.underlying41 hi hz0 hz1 hz2 rfl (by decide) _ (L1).length (iC (L1)) rfl (Hown.out.alloc _) ⟨wc.heap.size, 0, none⟩ 1 1 [.int .i64 (yy)] rfl rfl (new_i wc (yy) _) (one_i (yy)) (by unfold maxLen; omega) (by omega) (Nat.le_trans hbs (ext_al wc _).size) ?_; intro v' w7 hown' hgrow' _)
      have ho5 := Hown.out.alloc (.cells #[.int .i64 yy] 3)
      have hE7 : Ext w w7 := grown_ext (Ext.trans HE.out (ext_al _ _)) hgrow' (fun k hk => by have := (own_lt ho5 k hk).1; omega)
      have b7 := OpBx_grown hgrow' ho5 (Hbx.out.ext (ext_al _ _)) (by omega)
      have hs7 : base ≤ w7.heap.size := Nat.le_trans (Nat.le_trans hbs (ext_al wc _).size) hgrow'.size
      go_meet
      exact ⟨hE7, b7, by rw [HL'.out]; exact own_snoc hown', hs7⟩
  case rest =>
  clear HE Hbx Hub Hown hbs s4 y4
  obtain ⟨hE2, b2, ho2, hs2⟩ := hcut
  obtain ⟨L2, hL2⟩ : ∃ L, L1 ++ tchB 12 (kn : Int) bt = L := ⟨_, rfl⟩
  rw [hL2] at ho2 HR
  have lL2 : L2.length ≤ n1 + 2 := by rw [← hL2, List.length_append]; omega
  have HE2 := Lib.hid hE2; have Hb2 := Lib.hid b2; have Ho2 := Lib.hid ho2
  have y5 := b2.x5
  clear hE2 b2 ho2 hL2
  go_wp2_with fail
  go_loopg [3, 34] n2 (fun kk s3 s34 wx => ∃ i : Nat, s34 = .int .i64 (i : Int) ∧ i ≤ n2 ∧ n2 - i = kk ∧ Ext w wx ∧ OpBx wx w.heap.size (kn : Int) k a1 n1 c1 q bt a2 n2 c2 ∧ wx.ownsRow base 3 1 s3 (L2 ++ tchC 12 (cnd.take i)).length (iC (L2 ++ tchC 12 (cnd.take i))) ∧ base ≤ wx.heap.size)
  case atStart => exact ⟨0, rfl, by omega, by omega, HE2.out, Hb2.out, by simpa [tchC] using Ho2.out, hs2⟩
  case round =>
    clear HE2 Hb2 Ho2 hs2 y5
    obtain ⟨i, rfl, hi1, hk, hE, hb, hown, hbs⟩ := hrel
    have HE := Lib.hid hE; have Hbx := Lib.hid hb; have Hown := Lib.hid hown
    clear hE hown hb
    by_cases hin : i = n2
    · have h2 : ¬ (i : Int) < (n2 : Int) := by omega
      have hown := Hown.out
      rw [List.take_of_length_le (by rw [Hl2.out]; omega), HR.out] at hown
      obtain ⟨a', c', e, e1, e2, e3, _⟩ := ints_of_own hown
      subst e
      have Hnew := Lib.hid (show ∀ b o, a' = some ⟨b, o, none⟩ → w.heap.size ≤ b from fun b o e => by subst e; have := (own_lt hown b (by simp [Value.ownBlock])).1; omega)
      have HI := Lib.hid e3; have He1 := Lib.hid e1; have He2 := Lib.hid e2
      clear hown Hown e1 e2 e3
      go_wp2_with fail
      go_ret
      exact ⟨⟨a', _, c', rfl, He1.out, He2.out, HI.out, Hnew.out⟩, HE.out⟩
    · have h2 : (i : Int) < (n2 : Int) := by omega
      have h0 : (0 : Int) ≤ (i : Int) := by omega
      obtain ⟨b, o, rfl, hbl, hcell⟩ := (HL.out.i2.ext HE.out).at (by omega)
      have hci := hcell i (by omega)
      obtain ⟨y, hy⟩ : ∃ y, cnd.getD i 0 = y := ⟨_, rfl⟩
      rw [hy] at hci
      have hym : -12 ≤ y ∧ y ≤ 12 := Hcn.out y (by rw [← hy, List.getD_eq_getElem?_getD, List.getElem?_eq_getElem (by rw [Hl2.out]; omega)]; exact List.getElem_mem _)
      have hst : tchC 12 (cnd.take (i + 1)) = tchC 12 (cnd.take i) ++ [12 + bitOf y] := by
        rw [take_succ' cnd i (by rw [Hl2.out]; omega), hy]; simp [tchC]
      have Hst := Lib.hid hst
      have hlt : (L2 ++ tchC 12 (cnd.take i)).length ≤ n1 + 2 + i := by rw [List.length_append, tchC_len, List.length_take, Hl2.out]; omega
      obtain ⟨bo, hbo⟩ : ∃ x, bitOf y = x := ⟨_, rfl⟩
      have hbr : -12 ≤ bo ∧ bo ≤ 12 := by rw [← hbo]; unfold bitOf; split <;> omega
      have HCn := Lib.hid (condition_any y wr hym)
      rw [hbo] at HCn Hst
      obtain ⟨on, hon⟩ : ∃ x, decide (0 ≤ y) = x := ⟨_, rfl⟩
      rw [hon] at HCn
      obtain ⟨yy, hyy⟩ : ∃ yy, 12 + bo = yy := ⟨_, rfl⟩
      have hw1 : IntKind.i64.wrap (12 + bo) = yy := by rw [IntKind.wrap_i64]; omega
      rw [hyy] at Hst
      clear hcell hy hst hbl hbo hon hyy
      go_wp2_with fail
      refine HCn.out.mono ?_
      rintro e wz ⟨rfl, rfl⟩
      go_wp2_with (at_builtin; refine wpList_append_own _ rfl _ _ 41 rfl base 3 i0 (.int .i64 0) 1 8 Tryd.underlying41 hi hz0 hz1 hz2 rfl (by decide) _ (L2 ++ tchC 12 (cnd.take i)).length (iC (L2 ++ tchC 12 (cnd.take i))) rfl (Hown.out.alloc _) ⟨wz.heap.size, 0, none⟩ 1 1 [.int .i64 (yy)] rfl rfl (new_i wz (yy) _) (one_i (yy)) (by unfold maxLen; omega) (by omega) (Nat.le_trans hbs (ext_al wz _).size) ?_; intro v' w7 hown' hgrow' _)
      have ho5 := Hown.out.alloc (.cells #[.int .i64 yy] 3)
      have hE7 : Ext w w7 := grown_ext (Ext.trans HE.out (ext_al _ _)) hgrow' (fun k hk => by have := (own_lt ho5 k hk).1; omega)
      have b7 := OpBx_grown hgrow' ho5 (Hbx.out.ext (ext_al _ _)) (by omega)
      have hs7 : base ≤ w7.heap.size := Nat.le_trans (Nat.le_trans hbs (ext_al wz _).size) hgrow'.size
      go_roundg (n2 - (i + 1))
      case measure => omega
      case rel => exact ⟨i + 1, by go_num, by omega, rfl, hE7, b7, by rw [Hst.out, ← List.append_assoc]; exact own_snoc hown', hs7⟩

end Go.Proofs.YtcbgonjgmbcbgabDoor

/-
  Levels: what both sides reckon, as one function of the places that each operation touches; the two numberings of places come to the same.
-/
namespace Go.Proofs.YtcbgonjgmbcbgabDoor

/-- One more place is looked at. -/
def levOne (f : Int → Int) (a t : Int) : Int := if a < f t + 1 then f t + 1 else a
/-- The level of an operation that touches the places L, where f holds the last levels. -/
def lev (f : Int → Int) (L : List Int) : Int := L.foldl (levOne f) 1
/-- The places L are given the level v. -/
def updL (f : Int → Int) (L : List Int) (v : Int) : Int → Int := fun t => if t ∈ L then v else f t
/-- One operation: the last levels, and the greatest. -/
def lvStep (P : Gop → List Int) (s : (Int → Int) × Int) (o : Gop) : (Int → Int) × Int :=
  (updL s.1 (P o) (lev s.1 (P o)), if s.2 < lev s.1 (P o) then lev s.1 (P o) else s.2)
def lvs (P : Gop → List Int) (l : List Gop) : (Int → Int) × Int := l.foldl (lvStep P) (fun _ => 0, 0)
/-- The places as the program lists them, and as the reference does. -/
def plP (o : Gop) : List Int := o.ctl ++ tchQ o.kind o.q ++ tchB 12 o.kind o.bit ++ tchC 12 o.cnd
def plR (o : Gop) : List Int := tchQ o.kind o.q ++ o.ctl ++ tchB 100 o.kind o.bit ++ tchC 100 o.cnd
/-- A place's other number. -/
def ren (t : Int) : Int := if t < 12 then t else t + 88

theorem ren_inj {a b : Int} (h : ren a = ren b) : a = b := by unfold ren at h; split at h <;> split at h <;> omega
theorem lvs_snoc (P : Gop → List Int) (l : List Gop) (o : Gop) : lvs P (l ++ [o]) = lvStep P (lvs P l) o := by simp [lvs]
theorem lev_snoc (f : Int → Int) (L : List Int) (t : Int) : lev f (L ++ [t]) = levOne f (lev f L) t := by simp [lev]
theorem updL_nil (f : Int → Int) (v : Int) : updL f [] v = f := by funext t; simp [updL]
theorem updL_snoc (f : Int → Int) (L : List Int) (t v : Int) : updL f (L ++ [t]) v = updL (updL f L v) [t] v := by
  funext s
  simp only [updL, List.mem_append, List.mem_singleton]
  by_cases h1 : s = t <;> by_cases h2 : s ∈ L <;> simp [h1, h2]

theorem levOne_comm (f : Int → Int) (a s t : Int) : levOne f (levOne f a s) t = levOne f (levOne f a t) s := by
  unfold levOne; repeat' split
  all_goals omega
theorem lev_perm (f : Int → Int) {L M : List Int} (h : L.Perm M) : lev f L = lev f M := by
  have : ∀ a, L.foldl (levOne f) a = M.foldl (levOne f) a := by
    induction h with
    | nil => intro a; rfl
    | cons x _ ih => intro a; simp only [List.foldl_cons]; exact ih _
    | swap x y l => intro a; simp only [List.foldl_cons]; rw [levOne_comm]
    | trans _ _ h1 h2 => intro a; rw [h1, h2]
  exact this 1
theorem lev_ren (f g : Int → Int) (L : List Int) (h : ∀ t, g (ren t) = f t) : lev g (L.map ren) = lev f L := by
  have : ∀ a, (L.map ren).foldl (levOne g) a = L.foldl (levOne f) a := by
    induction L with
    | nil => intro a; rfl
    | cons x l ih => intro a; simp only [List.map_cons, List.foldl_cons]; rw [ih]; simp only [levOne, h]
  exact this 1

/-- What a circuit that is checked keeps to. -/
def placesFit (o : Gop) : Prop := (∀ t ∈ o.ctl, t < 12) ∧ o.q < 12 ∧ 0 ≤ o.bit ∧ ∀ t ∈ o.cnd, t ≠ 0
theorem pl_perm {o : Gop} (h : placesFit o) : (plR o).Perm ((plP o).map ren) := by
  obtain ⟨h1, h2, h3, h4⟩ := h
  have e1 : o.ctl.map ren = o.ctl := by
    have := List.map_congr_left (f := ren) (g := id) (l := o.ctl) (fun t ht => by simp [ren, h1 t ht])
    simpa using this
  have e2 : (tchQ o.kind o.q).map ren = tchQ o.kind o.q := by unfold tchQ; split <;> simp [ren, h2]
  have e3 : (tchB 12 o.kind o.bit).map ren = tchB 100 o.kind o.bit := by
    unfold tchB; split
    · simp [ren]; split <;> omega
    · rfl
  have e4 : (tchC 12 o.cnd).map ren = tchC 100 o.cnd := by
    unfold tchC
    rw [List.map_map]
    refine List.map_congr_left fun t ht => ?_
    have := h4 t ht
    simp only [Function.comp, ren, bitOf]
    repeat' split
    all_goals omega
  unfold plP plR
  simp only [List.map_append, e1, e2, e3, e4]
  exact ((List.perm_append_comm).append_right _).append_right _

theorem lvs_same : ∀ (l : List Gop), (∀ o ∈ l, placesFit o) → (∀ t, (lvs plR l).1 (ren t) = (lvs plP l).1 t) ∧ (lvs plR l).2 = (lvs plP l).2 := by
  intro l hl
  have key : ∀ (l : List Gop) (s s' : (Int → Int) × Int), (∀ o ∈ l, placesFit o) → (∀ t, s'.1 (ren t) = s.1 t) → s'.2 = s.2 →
      (∀ t, (l.foldl (lvStep plR) s').1 (ren t) = (l.foldl (lvStep plP) s).1 t) ∧ (l.foldl (lvStep plR) s').2 = (l.foldl (lvStep plP) s).2 := by
    intro l
    induction l with
    | nil => intro s s' _ h1 h2; exact ⟨h1, h2⟩
    | cons o l ih =>
      intro s s' hl h1 h2
      simp only [List.foldl_cons]
      have hp := pl_perm (hl o (by simp))
      have hv : lev s'.1 (plR o) = lev s.1 (plP o) := by rw [lev_perm _ hp, lev_ren _ _ _ h1]
      refine ih _ _ (fun o' h' => hl o' (by simp [h'])) (fun t => ?_) ?_
      · have hm : ren t ∈ plR o ↔ t ∈ plP o := by
          rw [hp.mem_iff, List.mem_map]
          constructor
          · rintro ⟨u, hu, he⟩; rw [← ren_inj he]; exact hu
          · intro h; exact ⟨t, h, rfl⟩
        simp only [lvStep, updL, hv, hm, h1]
      · simp only [lvStep, hv, h2]
  exact key l _ _ hl (fun _ => rfl) rfl

/-- Levels are small: from 0 to the number of operations. -/
theorem lev_bound {f : Int → Int} {n : Int} (hf : ∀ t, 0 ≤ f t ∧ f t ≤ n) (hn : 0 ≤ n) (L : List Int) : 1 ≤ lev f L ∧ lev f L ≤ n + 1 := by
  have : ∀ (L : List Int) (a : Int), 1 ≤ a → a ≤ n + 1 → 1 ≤ L.foldl (levOne f) a ∧ L.foldl (levOne f) a ≤ n + 1 := by
    intro L
    induction L with
    | nil => intro a h1 h2; exact ⟨h1, h2⟩
    | cons x l ih =>
      intro a h1 h2
      have := hf x
      simp only [List.foldl_cons]
      refine ih _ ?_ ?_ <;> (unfold levOne; split <;> omega)
  exact this L 1 (by omega) (by omega)
theorem lvs_bound (P : Gop → List Int) (l : List Gop) : (∀ t, 0 ≤ (lvs P l).1 t ∧ (lvs P l).1 t ≤ (l.length : Int)) ∧ 0 ≤ (lvs P l).2 ∧ (lvs P l).2 ≤ (l.length : Int) := by
  have key : ∀ (l : List Gop) (s : (Int → Int) × Int) (n : Nat), (∀ t, 0 ≤ s.1 t ∧ s.1 t ≤ (n : Int)) → 0 ≤ s.2 ∧ s.2 ≤ (n : Int) →
      (∀ t, 0 ≤ (l.foldl (lvStep P) s).1 t ∧ (l.foldl (lvStep P) s).1 t ≤ ((n + l.length : Nat) : Int)) ∧ 0 ≤ (l.foldl (lvStep P) s).2 ∧ (l.foldl (lvStep P) s).2 ≤ ((n + l.length : Nat) : Int) := by
    intro l
    induction l with
    | nil => intro s n h1 h2; exact ⟨h1, h2⟩
    | cons o l ih =>
      intro s n h1 h2
      have hb := lev_bound h1 (by omega) (P o)
      simp only [List.foldl_cons]
      have hlen : n + (o :: l).length = (n + 1) + l.length := by simp; omega
      rw [hlen]
      refine ih _ (n + 1) (fun t => ?_) ?_
      · have := h1 t
        simp only [lvStep, updL]
        split <;> omega
      · simp only [lvStep]
        split <;> omega
  have := key l (fun _ => 0, 0) 0 (fun _ => ⟨by simp, by simp⟩) ⟨by simp, by simp⟩
  simpa [lvs] using this

end Go.Proofs.YtcbgonjgmbcbgabDoor
