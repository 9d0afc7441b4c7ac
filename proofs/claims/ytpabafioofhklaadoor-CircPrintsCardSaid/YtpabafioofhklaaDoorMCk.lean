/-
  What an operation touches, as the reference lists it.
-/
import Derived.Test.YtpabafioofhklaaDoorMCi
import Derived.Test.YtpabafioofhklaaDoorMCe
import Derived.Deep.CutRange

namespace Go.Proofs.YtpabafioofhklaaDoor
open Go.RowKit

/-- The bit that a term names. -/
def bitOf (t : Int) : Int := if 0 < t then t - 1 else -t - 1
def tchQ (kd q : Int) : List Int := if kd = 1 then [] else [q]
def tchB (z kd bt : Int) : List Int := if kd = 5 then [z + bt] else []
def tchC (z : Int) (l : List Int) : List Int := l.map fun t => z + bitOf t
theorem tchQ_len (kd q : Int) : (tchQ kd q).length ≤ 1 := by unfold tchQ; split <;> simp
theorem tchB_len (z kd bt : Int) : (tchB z kd bt).length ≤ 1 := by unfold tchB; split <;> simp
theorem tchC_len (z : Int) (l : List Int) : (tchC z l).length = l.length := by simp [tchC]
theorem take_succ' (l : List Int) (i : Nat) (h : i < l.length) : l.take (i + 1) = l.take i ++ [l.getD i 0] := by
  rw [List.take_add_one, List.getElem?_eq_getElem h, List.getD_eq_getElem?_getD, List.getElem?_eq_getElem h]
  rfl
theorem own_snoc {w : World} {base : Nat} {v : Value} {L : List Int} {y : Int} (h : w.ownsRow base 3 1 v (L.length + 1) (iC L ++ [.int .i64 y])) : w.ownsRow base 3 1 v (L ++ [y]).length (iC (L ++ [y])) := by
  rw [iC_snoc, show (L ++ [y]).length = L.length + 1 by simp]; exact h
theorem OpBx_grown {a w' : World} {v : Value} {base n size : Nat} {xs : List Value} {e : TypeId} {g : Nat} {k0 k1 : Int} {a1 : Option Addr} {n1 c1 : Nat} {k3 k4 : Int} {a2 : Option Addr} {n2 c2 : Nat} (hg : a.grownBy w' v.ownBlock) (ho : a.ownsRow base e size v n xs) (h : OpBx a g k0 k1 a1 n1 c1 k3 k4 a2 n2 c2) (hb : g < base) : OpBx w' g k0 k1 a1 n1 c1 k3 k4 a2 n2 c2 :=
  ⟨(hg.block g h.lt (fun e => by have := (own_lt ho g e.symm).1; omega)).trans h.row⟩

set_option maxHeartbeats 4000000 in
set_option maxRecDepth 100000 in
theorem touches_any (o : Gop) (a1 : Option Addr) (n1 c1 : Nat) (a2 : Option Addr) (n2 c2 : Nat) (w : World) (h : OpL w o a1 n1 c1 a2 n2 c2) (hb1 : (n1 + 26) * 8 ≤ 140737488355328) (hb2 : n2 ≤ 24) (hbt : 0 ≤ o.bit ∧ o.bit ≤ 12) (hcn : ∀ t ∈ o.cnd, -12 ≤ t ∧ t ≤ 12) :
    Calls Tryd.prog 23 #[.agg #[.int .i64 o.kind, .int .i64 o.k, .slice a1 n1 c1, .int .i64 o.q, .int .i64 o.bit, .slice a2 n2 c2]] w fun e w' => (∃ (a' : Option Addr) (m c' : Nat), e = .returned (.slice a' m c') ∧ m ≤ c' ∧ c' ≤ maxLen ∧ IntsAt w' a' m (tchQ o.kind o.q ++ o.ctl ++ tchB 100 o.kind o.bit ++ tchC 100 o.cnd) ∧ ∀ b o, a' = some ⟨b, o, none⟩ → w.heap.size ≤ b) ∧ Ext w w' := by
  obtain ⟨i0, hi, hz0, hz1, hz2⟩ := info_parts i_info
  obtain ⟨kd, k, ctl, q, bt, cnd⟩ := o
  have E0 := ext_al w (.cells #[.int .i64 kd, .int .i64 k, .slice a1 n1 c1, .int .i64 q, .int .i64 bt, .slice a2 n2 c2] 45)
  have bx := opbx_new w kd k a1 n1 c1 q bt a2 n2 c2
  have HE0 := Lib.hid E0; have HL := Lib.hid h; have Hbx0 := Lib.hid bx
  have Hl1 := Lib.hid h.i1.1; have Hl2 := Lib.hid h.i2.1; have Hcn := Lib.hid hcn
  have m0 := bx.x0; have m3 := bx.x3
  obtain ⟨base, hbase⟩ : ∃ base, w.heap.size + 1 = base := ⟨_, rfl⟩
  have hs0 : base ≤ (w.alloc (.cells #[.int .i64 kd, .int .i64 k, .slice a1 n1 c1, .int .i64 q, .int .i64 bt, .slice a2 n2 c2] 45)).heap.size := by simp; omega
  have lQ := tchQ_len kd q; have lB := tchB_len 100 kd bt
  simp only at hbt Hl1 Hl2 Hcn HL ⊢
  obtain ⟨R, hR⟩ : ∃ R, tchQ kd q ++ ctl ++ tchB 100 kd bt ++ tchC 100 cnd = R := ⟨_, rfl⟩
  rw [hR]
  have HR := Lib.hid hR
  clear h E0 bx hcn hR
  go_enter Tryd.func23, Tryd.ntmps23
  go_upto_if 8 with fail
  generalize w.alloc (.cells #[.int .i64 kd, .int .i64 k, .slice a1 n1 c1, .int .i64 q, .int .i64 bt, .slice a2 n2 c2] 45) = W0 at *
  go_cut [3] from 6 to 13 (fun s3 wx => Ext w wx ∧ OpBx wx w.heap.size kd k a1 n1 c1 q bt a2 n2 c2 ∧ wx.ownsRow base 3 1 s3 (tchQ kd q).length (iC (tchQ kd q)) ∧ base ≤ wx.heap.size)
  case first =>
    by_cases hk1 : kd = 1
    · have e1 := nf' hk1
      have hL : tchQ kd q = [] := by simp [tchQ, hk1]
      have HL' := Lib.hid hL
      clear hk1 hL
      go_wp2_with fail
      go_meet
      exact ⟨HE0.out, Hbx0.out, by rw [HL'.out]; exact ⟨rfl, Or.inl ⟨rfl, rfl⟩⟩, hs0⟩
    · have e1 := nt hk1
      have hL : tchQ kd q = [q] := by simp [tchQ, hk1]
      have HL' := Lib.hid hL
      have hown : W0.ownsRow base 3 1 (.slice none 0 0) ([] : List Int).length (iC ([] : List Int)) := ⟨rfl, Or.inl ⟨rfl, rfl⟩⟩
      have Hown := Lib.hid hown
      have hbs := hs0
      clear hk1 hL hown
      go_wp2_with (at_builtin; refine wpList_append_own _ rfl _ _ 43 rfl base 3 i0 (.int .i64 0) 1 8 Tryd.underlying43 hi hz0 hz1 hz2 rfl (by decide) _ (([] : List Int)).length (iC (([] : List Int))) rfl (Hown.out.alloc _) ⟨W0.heap.size, 0, none⟩ 1 1 [.int .i64 (q)] rfl rfl (new_i W0 (q) _) (one_i (q)) (by unfold maxLen; first | omega | (simp; done) | (simp; omega)) (by first | omega | (simp; done) | (simp; omega)) (Nat.le_trans hbs (ext_al W0 _).size) ?_; intro v' w7 hown' hgrow' _)
      have HE := HE0; have Hbx := Hbx0
      have ho5 := Hown.out.alloc (.cells #[.int .i64 q] 3)
      have hE7 : Ext w w7 := grown_ext (Ext.trans HE.out (ext_al _ _)) hgrow' (fun k hk => by have := (own_lt ho5 k hk).1; omega)
      have b7 := OpBx_grown hgrow' ho5 (Hbx.out.ext (ext_al _ _)) (by omega)
      have hs7 : base ≤ w7.heap.size := Nat.le_trans (Nat.le_trans hbs (ext_al W0 _).size) hgrow'.size
      go_meet
      exact ⟨hE7, b7, by rw [HL'.out]; exact own_snoc (L := []) hown', hs7⟩
  case rest =>
  clear HE0 Hbx0 hs0 m0 m3
  obtain ⟨hE1, b1, ho1, hs1⟩ := hcut
  obtain ⟨L0, hL0⟩ : ∃ L, tchQ kd q = L := ⟨_, rfl⟩
  rw [hL0] at ho1 lQ HR
  have HE1 := Lib.hid hE1; have Hb1 := Lib.hid b1; have Ho1 := Lib.hid ho1
  have z2 := b1.x2
  clear hE1 b1 ho1 hL0
  go_wp2_with fail
  go_loopg [3, 4] n1 (fun kk s3 s4 wx => ∃ i : Nat, s4 = .int .i64 (i : Int) ∧ i ≤ n1 ∧ n1 - i = kk ∧ Ext w wx ∧ OpBx wx w.heap.size kd k a1 n1 c1 q bt a2 n2 c2 ∧ wx.ownsRow base 3 1 s3 (L0 ++ ctl.take i).length (iC (L0 ++ ctl.take i)) ∧ base ≤ wx.heap.size)
  case atStart => exact ⟨0, rfl, by omega, by omega, HE1.out, Hb1.out, by simpa using Ho1.out, hs1⟩
  case round =>
    clear HE1 Hb1 Ho1 hs1 z2
    obtain ⟨i, rfl, hi1, hk, hE, hb, hown, hbs⟩ := hrel
    have HE := Lib.hid hE; have Hbx := Lib.hid hb; have Hown := Lib.hid hown
    have y2 := hb.x2; have y0 := hb.x0; have y4 := hb.x4
    clear hE hown hb
    by_cases hin : i = n1
    · have h2 : ¬ (i : Int) < (n1 : Int) := by omega
      have hin2 := hin.symm
      clear hin
      subst hin2
      have hown := Hown.out
      rw [List.take_of_length_le (by rw [Hl1.out]; exact Nat.le_refl _)] at hown
      have Hown1 := Lib.hid hown
      clear Hown hown
      obtain ⟨L1, hL1⟩ : ∃ L, L0 ++ ctl = L := ⟨_, rfl⟩
      rw [hL1] at Hown1
      have lL1 : L1.length = L0.length + n1 := by rw [← hL1, List.length_append, Hl1.out]
      rw [hL1] at HR
      clear hL1
      go_upto_if 31 with fail
      go_cut [3] from 29 to 37 (fun s3 wx => Ext w wx ∧ OpBx wx w.heap.size kd k a1 n1 c1 q bt a2 n2 c2 ∧ wx.ownsRow base 3 1 s3 (L1 ++ tchB 100 kd bt).length (iC (L1 ++ tchB 100 kd bt)) ∧ base ≤ wx.heap.size)
      case first =>
        have Hown := Hown1
        by_cases hk5 : kd = 5
        · have e5 := bt' hk5
          have hL : tchB 100 kd bt = [100 + bt] := by simp [tchB, hk5]
          have HL' := Lib.hid hL
          have hw1 : IntKind.i64.wrap (100 + bt) = 100 + bt := by rw [IntKind.wrap_i64]; omega
          obtain ⟨yy, hyy⟩ : ∃ yy, 100 + bt = yy := ⟨_, rfl⟩
          rw [hyy] at HL' hw1
          have Hyy := Lib.hid hyy
          rw [← hyy] at hw1
          rw [hyy] at hw1
          clear hk5 hL
          go_wp2_with (at_builtin; refine wpList_append_own _ rfl _ _ 43 rfl base 3 i0 (.int .i64 0) 1 8 Tryd.underlying43 hi hz0 hz1 hz2 rfl (by decide) _ (L1).length (iC (L1)) rfl (Hown.out.alloc _) ⟨wr.heap.size, 0, none⟩ 1 1 [.int .i64 (yy)] rfl rfl (new_i wr (yy) _) (one_i (yy)) (by unfold maxLen; first | omega | (simp; done) | (simp; omega)) (by first | omega | (simp; done) | (simp; omega)) (Nat.le_trans hbs (ext_al wr _).size) ?_; intro v' w7 hown' hgrow' _)
          have ho5 := Hown.out.alloc (.cells #[.int .i64 yy] 3)
          have hE7 : Ext w w7 := grown_ext (Ext.trans HE.out (ext_al _ _)) hgrow' (fun k hk => by have := (own_lt ho5 k hk).1; omega)
          have b7 := OpBx_grown hgrow' ho5 (Hbx.out.ext (ext_al _ _)) (by omega)
          have hs7 : base ≤ w7.heap.size := Nat.le_trans (Nat.le_trans hbs (ext_al wr _).size) hgrow'.size
          go_meet
          exact ⟨hE7, b7, by rw [HL'.out]; exact own_snoc hown', hs7⟩
        · have e5 := bf hk5
          have hL : tchB 100 kd bt = [] := by simp [tchB, hk5]
          have HL' := Lib.hid hL
          clear hk5 hL
          go_wp2_with fail
          go_meet
          exact ⟨HE.out, Hbx.out, by rw [HL'.out, List.append_nil]; exact Hown.out, hbs⟩
      case rest =>
      obtain ⟨hE2, b2, ho2, hs2⟩ := hcut
      obtain ⟨L2, hL2⟩ : ∃ L, L1 ++ tchB 100 kd bt = L := ⟨_, rfl⟩
      rw [hL2] at ho2 HR
      have lL2 : L2.length ≤ L0.length + n1 + 1 := by rw [← hL2, List.length_append]; omega
      have HE2 := Lib.hid hE2; have Hb2 := Lib.hid b2; have Ho2 := Lib.hid ho2
      clear hE2 b2 ho2 hL2 HE Hbx Hown1 hbs y2 y0 y4
      go_wp2_with fail
      go_loopg [3, 5] n2 (fun kk s3 s5 wx => ∃ i : Nat, s5 = .int .i64 (i : Int) ∧ i ≤ n2 ∧ n2 - i = kk ∧ Ext w wx ∧ OpBx wx w.heap.size kd k a1 n1 c1 q bt a2 n2 c2 ∧ wx.ownsRow base 3 1 s3 (L2 ++ tchC 100 (cnd.take i)).length (iC (L2 ++ tchC 100 (cnd.take i))) ∧ base ≤ wx.heap.size)
      case atStart => exact ⟨0, rfl, by omega, by omega, HE2.out, Hb2.out, by simpa [tchC] using Ho2.out, hs2⟩
      case round =>
        clear HE2 Hb2 Ho2 hs2
        obtain ⟨i, rfl, hi1, hk, hE, hb, hown, hbs⟩ := hrel
        have HE := Lib.hid hE; have Hbx := Lib.hid hb; have Hown := Lib.hid hown
        have y5 := hb.x5
        clear hE hown hb
        by_cases hin : i = n2
        · have h2 : ¬ (i : Int) < (n2 : Int) := by omega
          have hown := Hown.out
          rw [List.take_of_length_le (by rw [Hl2.out]; omega), HR.out] at hown
          obtain ⟨a', c', e, e1, e2, e3, _⟩ := ints_of_own hown
          subst e
          have Hnew := Lib.hid (show ∀ b o, a' = some ⟨b, o, none⟩ → w.heap.size ≤ b from fun b o e => by subst e; have := (own_lt hown b (by simp [Value.ownBlock])).1; omega)
          have HI := Lib.hid e3; have He1 := Lib.hid e1; have He2 := Lib.hid e2
          clear hown Hown e1 e2 e3
          go_wp2_with fail
          go_ret
          exact ⟨⟨a', _, c', rfl, He1.out, He2.out, HI.out, Hnew.out⟩, HE.out⟩
        · have h2 : (i : Int) < (n2 : Int) := by omega
          have h0 : (0 : Int) ≤ (i : Int) := by omega
          obtain ⟨b, o, rfl, hbl, hcell⟩ := (HL.out.i2.ext HE.out).at (by omega)
          have hci := hcell i (by omega)
          obtain ⟨y, hy⟩ : ∃ y, cnd.getD i 0 = y := ⟨_, rfl⟩
          rw [hy] at hci
          have hym : -12 ≤ y ∧ y ≤ 12 := Hcn.out y (by rw [← hy, List.getD_eq_getElem?_getD, List.getElem?_eq_getElem (by rw [Hl2.out]; omega)]; exact List.getElem_mem _)
          have hst : tchC 100 (cnd.take (i + 1)) = tchC 100 (cnd.take i) ++ [100 + bitOf y] := by
            rw [take_succ' cnd i (by rw [Hl2.out]; omega), hy]; simp [tchC]
          have Hst := Lib.hid hst
          have hlt : (L2 ++ tchC 100 (cnd.take i)).length ≤ L0.length + n1 + 1 + i := by rw [List.length_append, tchC_len, List.length_take, Hl2.out]; omega
          clear hcell hy hst hbl
          by_cases hy0 : 0 < y
          · obtain ⟨yy, hyy⟩ : ∃ yy, 99 + y = yy := ⟨_, rfl⟩
            have hw1 : IntKind.i64.wrap (99 + y) = yy := by rw [IntKind.wrap_i64]; omega
            have Hyv : Hid (100 + bitOf y = yy) := by show _ = _; unfold bitOf; rw [if_pos hy0]; omega
            clear hyy
            go_wp2_with (at_builtin; refine wpList_append_own _ rfl _ _ 43 rfl base 3 i0 (.int .i64 0) 1 8 Tryd.underlying43 hi hz0 hz1 hz2 rfl (by decide) _ (L2 ++ tchC 100 (cnd.take i)).length (iC (L2 ++ tchC 100 (cnd.take i))) rfl (Hown.out.alloc _) ⟨wr.heap.size, 0, none⟩ 1 1 [.int .i64 (yy)] rfl rfl (new_i wr (yy) _) (one_i (yy)) (by unfold maxLen; first | omega | (simp; done) | (simp; omega)) (by first | omega | (simp; done) | (simp; omega)) (Nat.le_trans hbs (ext_al wr _).size) ?_; intro v' w7 hown' hgrow' _)
            have ho5 := Hown.out.alloc (.cells #[.int .i64 yy] 3)
            have hE7 : Ext w w7 := grown_ext (Ext.trans HE.out (ext_al _ _)) hgrow' (fun k hk => by have := (own_lt ho5 k hk).1; omega)
            have b7 := OpBx_grown hgrow' ho5 (Hbx.out.ext (ext_al _ _)) (by omega)
            have hs7 : base ≤ w7.heap.size := Nat.le_trans (Nat.le_trans hbs (ext_al wr _).size) hgrow'.size
            go_roundg (n2 - (i + 1))
            case measure => omega
            case rel => exact ⟨i + 1, by go_num, by omega, rfl, hE7, b7, by rw [Hst.out, Hyv.out, ← List.append_assoc]; exact own_snoc hown', hs7⟩
          · obtain ⟨yy, hyy⟩ : ∃ yy, 99 - y = yy := ⟨_, rfl⟩
            have hw1 : IntKind.i64.wrap (99 - y) = yy := by rw [IntKind.wrap_i64]; omega
            have Hyv : Hid (100 + bitOf y = yy) := by show _ = _; unfold bitOf; rw [if_neg hy0]; omega
            clear hyy
            go_wp2_with (at_builtin; refine wpList_append_own _ rfl _ _ 43 rfl base 3 i0 (.int .i64 0) 1 8 Tryd.underlying43 hi hz0 hz1 hz2 rfl (by decide) _ (L2 ++ tchC 100 (cnd.take i)).length (iC (L2 ++ tchC 100 (cnd.take i))) rfl (Hown.out.alloc _) ⟨wr.heap.size, 0, none⟩ 1 1 [.int .i64 (yy)] rfl rfl (new_i wr (yy) _) (one_i (yy)) (by unfold maxLen; first | omega | (simp; done) | (simp; omega)) (by first | omega | (simp; done) | (simp; omega)) (Nat.le_trans hbs (ext_al wr _).size) ?_; intro v' w7 hown' hgrow' _)
            have ho5 := Hown.out.alloc (.cells #[.int .i64 yy] 3)
            have hE7 : Ext w w7 := grown_ext (Ext.trans HE.out (ext_al _ _)) hgrow' (fun k hk => by have := (own_lt ho5 k hk).1; omega)
            have b7 := OpBx_grown hgrow' ho5 (Hbx.out.ext (ext_al _ _)) (by omega)
            have hs7 : base ≤ w7.heap.size := Nat.le_trans (Nat.le_trans hbs (ext_al wr _).size) hgrow'.size
            go_roundg (n2 - (i + 1))
            case measure => omega
            case rel => exact ⟨i + 1, by go_num, by omega, rfl, hE7, b7, by rw [Hst.out, Hyv.out, ← List.append_assoc]; exact own_snoc hown', hs7⟩
    · have h2 : (i : Int) < (n1 : Int) := by omega
      have h0 : (0 : Int) ≤ (i : Int) := by omega
      obtain ⟨b, o, rfl, hbl, hcell⟩ := (HL.out.i1.ext HE.out).at (by omega)
      have hci := hcell i (by omega)
      obtain ⟨yy, hyy⟩ : ∃ y, ctl.getD i 0 = y := ⟨_, rfl⟩
      rw [hyy] at hci
      have hst := take_succ' ctl i (by rw [Hl1.out]; omega)
      rw [hyy] at hst
      have Hst := Lib.hid hst
      have hlt : (L0 ++ ctl.take i).length ≤ 1 + n1 := by rw [List.length_append, List.length_take, Hl1.out]; omega
      clear hcell hyy hst hbl
      go_wp2_with (at_builtin; refine wpList_append_own _ rfl _ _ 43 rfl base 3 i0 (.int .i64 0) 1 8 Tryd.underlying43 hi hz0 hz1 hz2 rfl (by decide) _ (L0 ++ ctl.take i).length (iC (L0 ++ ctl.take i)) rfl (Hown.out.alloc _) ⟨wr.heap.size, 0, none⟩ 1 1 [.int .i64 (yy)] rfl rfl (new_i wr (yy) _) (one_i (yy)) (by unfold maxLen; first | omega | (simp; done) | (simp; omega)) (by first | omega | (simp; done) | (simp; omega)) (Nat.le_trans hbs (ext_al wr _).size) ?_; intro v' w7 hown' hgrow' _)
      have ho5 := Hown.out.alloc (.cells #[.int .i64 yy] 3)
      have hE7 : Ext w w7 := grown_ext (Ext.trans HE.out (ext_al _ _)) hgrow' (fun k hk => by have := (own_lt ho5 k hk).1; omega)
      have b7 := OpBx_grown hgrow' ho5 (Hbx.out.ext (ext_al _ _)) (by omega)
      have hs7 : base ≤ w7.heap.size := Nat.le_trans (Nat.le_trans hbs (ext_al wr _).size) hgrow'.size
      go_roundg (n1 - (i + 1))
      case measure => omega
      case rel => exact ⟨i + 1, by go_num, by omega, rfl, hE7, b7, by rw [Hst.out, ← List.append_assoc]; exact own_snoc hown', hs7⟩

end Go.Proofs.YtpabafioofhklaaDoor
