/-
  What an operation touches, as the reference lists it. Levels: what both sides reckon, as one function of the places that each operation touches; the two numberings of places come to the same. Levels: the program's walk. The first fault of a circuit, as the reference finds it. Why a circuit is not unitary: Pure of both sides. What a circuit without a fault keeps to; what Count tells of one, in plain numbers. A tally in a variable; what is counted, in plain numbers. The reference reads a line loosely. Lists and operations whose memory is their own: no two of them lie in one block. Devices in plain numbers: which qubits are linked, what ways reach. Nothing of the program stands here.
-/
import Derived.Test.YtlokfalkhgjlbaaDoorProg
import Derived.Test.YtlokfalkhgjlbaaDoorRows
import Derived.BigQuiet
import Derived.Deep.AppendLies
import Derived.Deep.Cut
import Derived.Deep.CutRange
import Derived.Deep.LoopGhost
import Derived.Deep.QuietTactic
import Derived.Deep.RegionHeld3
import Derived.Ground.Names2Prog
import Derived.Laws.Bits64b
import Derived.Laws.CopyOwn
import Derived.Laws.ResultCell
import Derived.Lib.BitFns
import Derived.Lib.Hide
import Derived.Lib.ItoaMem
import Derived.Lib.ItoaNum
import Derived.Lib.Strings
import Derived.Maps.AppendAt
import Derived.OwnWalk
import Derived.Shelf.Slices.Clone
import Derived.Shelf.Slices.Turned
import Derived.WalkKit
import Derived.WalkLawsBesides
import Derived.WalkSpells
import Derived.Test.YtlokfalkhgjlbaaDoorS00Ce
import Derived.Test.YtlokfalkhgjlbaaDoorS01Cj
import Derived.Test.YtlokfalkhgjlbaaDoorShelf
namespace Go.Proofs.YtlokfalkhgjlbaaDoor
open Go.RowKit

/-- The bit that a term names. -/
def bitOf (t : Int) : Int := if 0 < t then t - 1 else -t - 1
def tchQ (kd q : Int) : List Int := if kd = 1 then [] else [q]
def tchB (z kd bt : Int) : List Int := if kd = 5 then [z + bt] else []
def tchC (z : Int) (l : List Int) : List Int := l.map fun t => z + bitOf t
theorem tchQ_len (kd q : Int) : (tchQ kd q).length ≤ 1 := by unfold tchQ; split <;> simp
theorem tchB_len (z kd bt : Int) : (tchB z kd bt).length ≤ 1 := by unfold tchB; split <;> simp
theorem tchC_len (z : Int) (l : List Int) : (tchC z l).length = l.length := by simp [tchC]
theorem take_succ' (l : List Int) (i : Nat) (h : i < l.length) : l.take (i + 1) = l.take i ++ [l.getD i 0] := by
  rw [List.take_add_one, List.getElem?_eq_getElem h, List.getD_eq_getElem?_getD, List.getElem?_eq_getElem h]
  rfl
theorem own_snoc {w : World} {base : Nat} {v : Value} {L : List Int} {y : Int} (h : w.ownsRow base 3 1 v (L.length + 1) (iC L ++ [.int .i64 y])) : w.ownsRow base 3 1 v (L ++ [y]).length (iC (L ++ [y])) := by
  rw [iC_snoc, show (L ++ [y]).length = L.length + 1 by simp]; exact h
theorem OpBx_grown {a w' : World} {v : Value} {base n size : Nat} {xs : List Value} {e : TypeId} {g : Nat} {k0 k1 : Int} {a1 : Option Addr} {n1 c1 : Nat} {k3 k4 : Int} {a2 : Option Addr} {n2 c2 : Nat} (hg : a.grownBy w' v.ownBlock) (ho : a.ownsRow base e size v n xs) (h : OpBx a g k0 k1 a1 n1 c1 k3 k4 a2 n2 c2) (hb : g < base) : OpBx w' g k0 k1 a1 n1 c1 k3 k4 a2 n2 c2 :=
  ⟨(hg.block g h.lt (fun e => by have := (own_lt ho g e.symm).1; omega)).trans h.row⟩

set_option maxHeartbeats 4000000 in
set_option maxRecDepth 100000 in
theorem touches_any (o : Gop) (a1 : Option Addr) (n1 c1 : Nat) (a2 : Option Addr) (n2 c2 : Nat) (w : World) (h : OpL w o a1 n1 c1 a2 n2 c2) (hb1 : (n1 + 26) * 8 ≤ 140737488355328) (hb2 : n2 ≤ 24) (hbt : 0 ≤ o.bit ∧ o.bit ≤ 12) (hcn : ∀ t ∈ o.cnd, -12 ≤ t ∧ t ≤ 12) :
    Calls Tryd.prog 47 #[.agg #[.int .i64 o.kind, .int .i64 o.k, .slice a1 n1 c1, .int .i64 o.q, .int .i64 o.bit, .slice a2 n2 c2]] w fun e w' => (∃ (a' : Option Addr) (m c' : Nat), e = .returned (.slice a' m c') ∧ m ≤ c' ∧ c' ≤ maxLen ∧ IntsAt w' a' m (tchQ o.kind o.q ++ o.ctl ++ tchB 100 o.kind o.bit ++ tchC 100 o.cnd) ∧ ∀ b o, a' = some ⟨b, o, none⟩ → w.heap.size ≤ b) ∧ Ext w w' := by
  obtain ⟨i0, hi, hz0, hz1, hz2⟩ := info_parts i_info
  obtain ⟨kd, k, ctl, q, bt, cnd⟩ := o
  have E0 := ext_al w (.cells #[.int .i64 kd, .int .i64 k, .slice a1 n1 c1, .int .i64 q, .int .i64 bt, .slice a2 n2 c2] 46)
  have bx := opbx_new w kd k a1 n1 c1 q bt a2 n2 c2
  have HE0 := Lib.hid E0; have HL := Lib.hid h; have Hbx0 := Lib.hid bx
  have Hl1 := Lib.hid h.i1.1; have Hl2 := Lib.hid h.i2.1; have Hcn := Lib.hid hcn
  have m0 := bx.x0; have m3 := bx.x3
  obtain ⟨base, hbase⟩ : ∃ base, w.heap.size + 1 = base := ⟨_, rfl⟩
  have hs0 : base ≤ (w.alloc (.cells #[.int .i64 kd, .int .i64 k, .slice a1 n1 c1, .int .i64 q, .int .i64 bt, .slice a2 n2 c2] 46)).heap.size := by simp; omega
  have lQ := tchQ_len kd q; have lB := tchB_len 100 kd bt
  simp only at hbt Hl1 Hl2 Hcn HL ⊢
  obtain ⟨R, hR⟩ : ∃ R, tchQ kd q ++ ctl ++ tchB 100 kd bt ++ tchC 100 cnd = R := ⟨_, rfl⟩
  rw [hR]
  have HR := Lib.hid hR
  clear h E0 bx hcn hR
  go_enter Tryd.func47, Tryd.ntmps47
  go_upto_if 8 with fail
  generalize w.alloc (.cells #[.int .i64 kd, .int .i64 k, .slice a1 n1 c1, .int .i64 q, .int .i64 bt, .slice a2 n2 c2] 46) = W0 at *
  go_cut [3] from 6 to 13 (fun s3 wx => Ext w wx ∧ OpBx wx w.heap.size kd k a1 n1 c1 q bt a2 n2 c2 ∧ wx.ownsRow base 3 1 s3 (tchQ kd q).length (iC (tchQ kd q)) ∧ base ≤ wx.heap.size)
  case first =>
    by_cases hk1 : kd = 1
    · have e1 := nf' hk1
      have hL : tchQ kd q = [] := by simp [tchQ, hk1]
      have HL' := Lib.hid hL
      clear hk1 hL
      go_wp2_with fail
      go_meet
      exact ⟨HE0.out, Hbx0.out, by rw [HL'.out]; exact ⟨rfl, Or.inl ⟨rfl, rfl⟩⟩, hs0⟩
    · have e1 := nt hk1
      have hL : tchQ kd q = [q] := by simp [tchQ, hk1]
      have HL' := Lib.hid hL
      have hown : W0.ownsRow base 3 1 (.slice none 0 0) ([] : List Int).length (iC ([] : List Int)) := ⟨rfl, Or.inl ⟨rfl, rfl⟩⟩
      have Hown := Lib.hid hown
      have hbs := hs0
      clear hk1 hL hown
      go_wp2_with (at_builtin; refine wpList_append_own _ rfl _ _ 36 rfl base 3 i0 (.int .i64 0) 1 8 Tryd.underlying36 hi hz0 hz1 hz2 rfl (by decide) _ (([] : List Int)).length (iC (([] : List Int))) rfl (Hown.out.alloc _) ⟨W0.heap.size, 0, none⟩ 1 1 [.int .i64 (q)] rfl rfl (new_i W0 (q) _) (one_i (q)) (by unfold maxLen; first | omega | (simp; done) | (simp; omega)) (by first | omega | (simp; done) | (simp; omega)) (Nat.le_trans hbs (ext_al W0 _).size) ?_; intro v' w7 hown' hgrow' _)
      have HE := HE0; have Hbx := Hbx0
      have ho5 := Hown.out.alloc (.cells #[.int .i64 q] 3)
      have hE7 : Ext w w7 := grown_ext (Ext.trans HE.out (ext_al _ _)) hgrow' (fun k hk => by have := (own_lt ho5 k hk).1; omega)
      have b7 := OpBx_grown hgrow' ho5 (Hbx.out.ext (ext_al _ _)) (by omega)
      have hs7 : base ≤ w7.heap.size := Nat.le_trans (Nat.le_trans hbs (ext_al W0 _).size) hgrow'.size
      go_meet
      exact ⟨hE7, b7, by rw [HL'.out]; exact own_snoc (L := []) hown', hs7⟩
  case rest =>
  clear HE0 Hbx0 hs0 m0 m3
  obtain ⟨hE1, b1, ho1, hs1⟩ := hcut
  obtain ⟨L0, hL0⟩ : ∃ L, tchQ kd q = L := ⟨_, rfl⟩
  rw [hL0] at ho1 lQ HR
  have HE1 := Lib.hid hE1; have Hb1 := Lib.hid b1; have Ho1 := Lib.hid ho1
  have z2 := b1.x2
  clear hE1 b1 ho1 hL0
  go_wp2_with fail
  go_loopg [3, 4] n1 (fun kk s3 s4 wx => ∃ i : Nat, s4 = .int .i64 (i : Int) ∧ i ≤ n1 ∧ n1 - i = kk ∧ Ext w wx ∧ OpBx wx w.heap.size kd k a1 n1 c1 q bt a2 n2 c2 ∧ wx.ownsRow base 3 1 s3 (L0 ++ ctl.take i).length (iC (L0 ++ ctl.take i)) ∧ base ≤ wx.heap.size)
  case atStart => exact ⟨0, rfl, by omega, by omega, HE1.out, Hb1.out, by simpa using Ho1.out, hs1⟩
  case round =>
    clear HE1 Hb1 Ho1 hs1 z2
    obtain ⟨i, rfl, hi1, hk, hE, hb, hown, hbs⟩ := hrel
    have HE := Lib.hid hE; have Hbx := Lib.hid hb; have Hown := Lib.hid hown
    have y2 := hb.x2; have y0 := hb.x0; have y4 := hb.x4
    clear hE hown hb
    by_cases hin : i = n1
    · have h2 : ¬ (i : Int) < (n1 : Int) := by omega
      have hin2 := hin.symm
      clear hin
      subst hin2
      have hown := Hown.out
      rw [List.take_of_length_le (by rw [Hl1.out]; exact Nat.le_refl _)] at hown
      have Hown1 := Lib.hid hown
      clear Hown hown
      obtain ⟨L1, hL1⟩ : ∃ L, L0 ++ ctl = L := ⟨_, rfl⟩
      rw [hL1] at Hown1
      have lL1 : L1.length = L0.length + n1 := by rw [← hL1, List.length_append, Hl1.out]
      rw [hL1] at HR
      clear hL1
      go_upto_if 31 with fail
      go_cut [3] from 29 to 37 (fun s3 wx => Ext w wx ∧ OpBx wx w.heap.size kd k a1 n1 c1 q bt a2 n2 c2 ∧ wx.ownsRow base 3 1 s3 (L1 ++ tchB 100 kd bt).length (iC (L1 ++ tchB 100 kd bt)) ∧ base ≤ wx.heap.size)
      case first =>
        have Hown := Hown1
        by_cases hk5 : kd = 5
        · have e5 := bt' hk5
          have hL : tchB 100 kd bt = [100 + bt] := by simp [tchB, hk5]
          have HL' := Lib.hid hL
          have hw1 : IntKind.i64.wrap (100 + bt) = 100 + bt := by rw [IntKind.wrap_i64]; omega
          obtain ⟨yy, hyy⟩ : ∃ yy, 100 + bt = yy := ⟨_, rfl⟩
          rw [hyy] at HL' hw1
          have Hyy := Lib.hid hyy
          rw [← hyy] at hw1
          rw [hyy] at hw1
          clear hk5 hL
          go_wp2_with (at_builtin; refine wpList_append_own _ rfl _ _ 36 rfl base 3 i0 (.int .i64 0) 1 8 Tryd.underlying36 hi hz0 hz1 hz2 rfl (by decide) _ (L1).length (iC (L1)) rfl (Hown.out.alloc _) ⟨wr.heap.size, 0, none⟩ 1 1 [.int .i64 (yy)] rfl rfl (new_i wr (yy) _) (one_i (yy)) (by unfold maxLen; first | omega | (simp; done) | (simp; omega)) (by first | omega | (simp; done) | (simp; omega)) (Nat.le_trans hbs (ext_al wr _).size) ?_; intro v' w7 hown' hgrow' _)
          have ho5 := Hown.out.alloc (.cells #[.int .i64 yy] 3)
          have hE7 : Ext w w7 := grown_ext (Ext.trans HE.out (ext_al _ _)) hgrow' (fun k hk => by have := (own_lt ho5 k hk).1; omega)
          have b7 := OpBx_grown hgrow' ho5 (Hbx.out.ext (ext_al _ _)) (by omega)
          have hs7 : base ≤ w7.heap.size := Nat.le_trans (Nat.le_trans hbs (ext_al wr _).size) hgrow'.size
          go_meet
          exact ⟨hE7, b7, by rw [HL'.out]; exact own_snoc hown', hs7⟩
        · have e5 := bf hk5
          have hL : tchB 100 kd bt = [] := by simp [tchB, hk5]
          have HL' := Lib.hid hL
          clear hk5 hL
          go_wp2_with fail
          go_meet
          exact ⟨HE.out, Hbx.out, by rw [HL'.out, List.append_nil]; exact Hown.out, hbs⟩
      case rest =>
      obtain ⟨hE2, b2, ho2, hs2⟩ := hcut
      obtain ⟨L2, hL2⟩ : ∃ L, L1 ++ tchB 100 kd bt = L := ⟨_, rfl⟩
      rw [hL2] at ho2 HR
      have lL2 : L2.length ≤ L0.length + n1 + 1 := by rw [← hL2, List.length_append]; omega
      have HE2 := Lib.hid hE2; have Hb2 := Lib.hid b2; have Ho2 := Lib.hid ho2
      clear hE2 b2 ho2 hL2 HE Hbx Hown1 hbs y2 y0 y4
      go_wp2_with fail
      go_loopg [3, 5] n2 (fun kk s3 s5 wx => ∃ i : Nat, s5 = .int .i64 (i : Int) ∧ i ≤ n2 ∧ n2 - i = kk ∧ Ext w wx ∧ OpBx wx w.heap.size kd k a1 n1 c1 q bt a2 n2 c2 ∧ wx.ownsRow base 3 1 s3 (L2 ++ tchC 100 (cnd.take i)).length (iC (L2 ++ tchC 100 (cnd.take i))) ∧ base ≤ wx.heap.size)
      case atStart => exact ⟨0, rfl, by omega, by omega, HE2.out, Hb2.out, by simpa [tchC] using Ho2.out, hs2⟩
      case round =>
        clear HE2 Hb2 Ho2 hs2
        obtain ⟨i, rfl, hi1, hk, hE, hb, hown, hbs⟩ := hrel
        have HE := Lib.hid hE; have Hbx := Lib.hid hb; have Hown := Lib.hid hown
        have y5 := hb.x5
        clear hE hown hb
        by_cases hin : i = n2
        · have h2 : ¬ (i : Int) < (n2 : Int) := by omega
          have hown := Hown.out
          rw [List.take_of_length_le (by rw [Hl2.out]; omega), HR.out] at hown
          obtain ⟨a', c', e, e1, e2, e3, _⟩ := ints_of_own hown
          subst e
          have Hnew := Lib.hid (show ∀ b o, a' = some ⟨b, o, none⟩ → w.heap.size ≤ b from fun b o e => by subst e; have := (own_lt hown b (by simp [Value.ownBlock])).1; omega)
          have HI := Lib.hid e3; have He1 := Lib.hid e1; have He2 := Lib.hid e2
          clear hown Hown e1 e2 e3
          go_wp2_with fail
          go_ret
          exact ⟨⟨a', _, c', rfl, He1.out, He2.out, HI.out, Hnew.out⟩, HE.out⟩
        · have h2 : (i : Int) < (n2 : Int) := by omega
          have h0 : (0 : Int) ≤ (i : Int) := by omega
          obtain ⟨b, o, rfl, hbl, hcell⟩ := (HL.out.i2.ext HE.out).at (by omega)
          have hci := hcell i (by omega)
          obtain ⟨y, hy⟩ : ∃ y, cnd.getD i 0 = y := ⟨_, rfl⟩
          rw [hy] at hci
          have hym : -12 ≤ y ∧ y ≤ 12 := Hcn.out y (by rw [← hy, List.getD_eq_getElem?_getD, List.getElem?_eq_getElem (by rw [Hl2.out]; omega)]; exact List.getElem_mem _)
          have hst : tchC 100 (cnd.take (i + 1)) = tchC 100 (cnd.take i) ++ [100 + bitOf y] := by
            rw [take_succ' cnd i (by rw [Hl2.out]; omega), hy]; simp [tchC]
          have Hst := Lib.hid hst
          have hlt : (L2 ++ tchC 100 (cnd.take i)).length ≤ L0.length + n1 + 1 + i := by rw [List.length_append, tchC_len, List.length_take, Hl2.out]; omega
          clear hcell hy hst hbl
          by_cases hy0 : 0 < y
          · obtain ⟨yy, hyy⟩ : ∃ yy, 99 + y = yy := ⟨_, rfl⟩
            have hw1 : IntKind.i64.wrap (99 + y) = yy := by rw [IntKind.wrap_i64]; omega
            have Hyv : Hid (100 + bitOf y = yy) := by show _ = _; unfold bitOf; rw [if_pos hy0]; omega
            clear hyy
            go_wp2_with (at_builtin; refine wpList_append_own _ rfl _ _ 36 rfl base 3 i0 (.int .i64 0) 1 8 Tryd.underlying36 hi hz0 hz1 hz2 rfl (by decide) _ (L2 ++ tchC 100 (cnd.take i)).length (iC (L2 ++ tchC 100 (cnd.take i))) rfl (Hown.out.alloc _) ⟨wr.heap.size, 0, none⟩ 1 1 [.int .i64 (yy)] rfl rfl (new_i wr (yy) _) (one_i (yy)) (by unfold maxLen; first | omega | (simp; done) | (simp; omega)) (by first | omega | (simp; done) | (simp; omega)) (Nat.le_trans hbs (ext_al wr _).size) ?_; intro v' w7 hown' hgrow' _)
            have ho5 := Hown.out.alloc (.cells #[.int .i64 yy] 3)
            have hE7 : Ext w w7 := grown_ext (Ext.trans HE.out (ext_al _ _)) hgrow' (fun k hk => by have := (own_lt ho5 k hk).1; omega)
            have b7 := OpBx_grown hgrow' ho5 (Hbx.out.ext (ext_al _ _)) (by omega)
            have hs7 : base ≤ w7.heap.size := Nat.le_trans (Nat.le_trans hbs (ext_al wr _).size) hgrow'.size
            go_roundg (n2 - (i + 1))
            case measure => omega
            case rel => exact ⟨i + 1, by go_num, by omega, rfl, hE7, b7, by rw [Hst.out, Hyv.out, ← List.append_assoc]; exact own_snoc hown', hs7⟩
          · obtain ⟨yy, hyy⟩ : ∃ yy, 99 - y = yy := ⟨_, rfl⟩
            have hw1 : IntKind.i64.wrap (99 - y) = yy := by rw [IntKind.wrap_i64]; omega
            have Hyv : Hid (100 + bitOf y = yy) := by show _ = _; unfold bitOf; rw [if_neg hy0]; omega
            clear hyy
            go_wp2_with (at_builtin; refine wpList_append_own _ rfl _ _ 36 rfl base 3 i0 (.int .i64 0) 1 8 Tryd.underlying36 hi hz0 hz1 hz2 rfl (by decide) _ (L2 ++ tchC 100 (cnd.take i)).length (iC (L2 ++ tchC 100 (cnd.take i))) rfl (Hown.out.alloc _) ⟨wr.heap.size, 0, none⟩ 1 1 [.int .i64 (yy)] rfl rfl (new_i wr (yy) _) (one_i (yy)) (by unfold maxLen; first | omega | (simp; done) | (simp; omega)) (by first | omega | (simp; done) | (simp; omega)) (Nat.le_trans hbs (ext_al wr _).size) ?_; intro v' w7 hown' hgrow' _)
            have ho5 := Hown.out.alloc (.cells #[.int .i64 yy] 3)
            have hE7 : Ext w w7 := grown_ext (Ext.trans HE.out (ext_al _ _)) hgrow' (fun k hk => by have := (own_lt ho5 k hk).1; omega)
            have b7 := OpBx_grown hgrow' ho5 (Hbx.out.ext (ext_al _ _)) (by omega)
            have hs7 : base ≤ w7.heap.size := Nat.le_trans (Nat.le_trans hbs (ext_al wr _).size) hgrow'.size
            go_roundg (n2 - (i + 1))
            case measure => omega
            case rel => exact ⟨i + 1, by go_num, by omega, rfl, hE7, b7, by rw [Hst.out, Hyv.out, ← List.append_assoc]; exact own_snoc hown', hs7⟩
    · have h2 : (i : Int) < (n1 : Int) := by omega
      have h0 : (0 : Int) ≤ (i : Int) := by omega
      obtain ⟨b, o, rfl, hbl, hcell⟩ := (HL.out.i1.ext HE.out).at (by omega)
      have hci := hcell i (by omega)
      obtain ⟨yy, hyy⟩ : ∃ y, ctl.getD i 0 = y := ⟨_, rfl⟩
      rw [hyy] at hci
      have hst := take_succ' ctl i (by rw [Hl1.out]; omega)
      rw [hyy] at hst
      have Hst := Lib.hid hst
      have hlt : (L0 ++ ctl.take i).length ≤ 1 + n1 := by rw [List.length_append, List.length_take, Hl1.out]; omega
      clear hcell hyy hst hbl
      go_wp2_with (at_builtin; refine wpList_append_own _ rfl _ _ 36 rfl base 3 i0 (.int .i64 0) 1 8 Tryd.underlying36 hi hz0 hz1 hz2 rfl (by decide) _ (L0 ++ ctl.take i).length (iC (L0 ++ ctl.take i)) rfl (Hown.out.alloc _) ⟨wr.heap.size, 0, none⟩ 1 1 [.int .i64 (yy)] rfl rfl (new_i wr (yy) _) (one_i (yy)) (by unfold maxLen; first | omega | (simp; done) | (simp; omega)) (by first | omega | (simp; done) | (simp; omega)) (Nat.le_trans hbs (ext_al wr _).size) ?_; intro v' w7 hown' hgrow' _)
      have ho5 := Hown.out.alloc (.cells #[.int .i64 yy] 3)
      have hE7 : Ext w w7 := grown_ext (Ext.trans HE.out (ext_al _ _)) hgrow' (fun k hk => by have := (own_lt ho5 k hk).1; omega)
      have b7 := OpBx_grown hgrow' ho5 (Hbx.out.ext (ext_al _ _)) (by omega)
      have hs7 : base ≤ w7.heap.size := Nat.le_trans (Nat.le_trans hbs (ext_al wr _).size) hgrow'.size
      go_roundg (n1 - (i + 1))
      case measure => omega
      case rel => exact ⟨i + 1, by go_num, by omega, rfl, hE7, b7, by rw [Hst.out, ← List.append_assoc]; exact own_snoc hown', hs7⟩

end Go.Proofs.YtlokfalkhgjlbaaDoor
namespace Go.Proofs.YtlokfalkhgjlbaaDoor

/-- The places L are given the level v. -/
def updL (f : Int → Int) (L : List Int) (v : Int) : Int → Int := fun t => if t ∈ L then v else f t
/-- The places as the program lists them, and as the reference does. -/
def plP (o : Gop) : List Int := o.ctl ++ tchQ o.kind o.q ++ tchB 12 o.kind o.bit ++ tchC 12 o.cnd
def plR (o : Gop) : List Int := tchQ o.kind o.q ++ o.ctl ++ tchB 100 o.kind o.bit ++ tchC 100 o.cnd
/-- A place's other number. -/
def ren (t : Int) : Int := if t < 12 then t else t + 88

theorem ren_inj {a b : Int} (h : ren a = ren b) : a = b := by unfold ren at h; split at h <;> split at h <;> omega
theorem updL_nil (f : Int → Int) (v : Int) : updL f [] v = f := by funext t; simp [updL]
theorem updL_snoc (f : Int → Int) (L : List Int) (t v : Int) : updL f (L ++ [t]) v = updL (updL f L v) [t] v := by
  funext s
  simp only [updL, List.mem_append, List.mem_singleton]
  by_cases h1 : s = t <;> by_cases h2 : s ∈ L <;> simp [h1, h2]

/-- What a circuit that is checked keeps to. -/
def placesFit (o : Gop) : Prop := (∀ t ∈ o.ctl, t < 12) ∧ o.q < 12 ∧ 0 ≤ o.bit ∧ ∀ t ∈ o.cnd, t ≠ 0
theorem pl_perm {o : Gop} (h : placesFit o) : (plR o).Perm ((plP o).map ren) := by
  obtain ⟨h1, h2, h3, h4⟩ := h
  have e1 : o.ctl.map ren = o.ctl := by
    have := List.map_congr_left (f := ren) (g := id) (l := o.ctl) (fun t ht => by simp [ren, h1 t ht])
    simpa using this
  have e2 : (tchQ o.kind o.q).map ren = tchQ o.kind o.q := by unfold tchQ; split <;> simp [ren, h2]
  have e3 : (tchB 12 o.kind o.bit).map ren = tchB 100 o.kind o.bit := by
    unfold tchB; split
    · simp [ren]; split <;> omega
    · rfl
  have e4 : (tchC 12 o.cnd).map ren = tchC 100 o.cnd := by
    unfold tchC
    rw [List.map_map]
    refine List.map_congr_left fun t ht => ?_
    have := h4 t ht
    simp only [Function.comp, ren, bitOf]
    repeat' split
    all_goals omega
  unfold plP plR
  simp only [List.map_append, e1, e2, e3, e4]
  exact ((List.perm_append_comm).append_right _).append_right _

end Go.Proofs.YtlokfalkhgjlbaaDoor
namespace Go.Proofs.YtlokfalkhgjlbaaDoor
open Go.RowKit

/-- The array of last levels, in a variable. -/
def LastAt (w : World) (g : Nat) (f : Int → Int) : Prop := ∀ i : Nat, i < 24 → w.cell? ⟨g, i, none⟩ = some (.int .i64 (f (i : Int))) ∧ w.frozen? ⟨g, i, none⟩ = false
theorem LastAt.ext {w w' : World} {g : Nat} {f : Int → Int} (h : LastAt w g f) (k : Ext w w') : LastAt w' g f := fun i hi => by
  obtain ⟨h1, h2⟩ := h i hi
  have hlt := World.block_lt_of_cell? w ⟨g, i, none⟩ h1
  exact ⟨cell_ext h1 k, by rw [← h2]; simp only [World.frozen?, k.block g hlt]⟩
theorem LastAt.put {w : World} {g : Nat} {f : Int → Int} (h : LastAt w g f) (t : Nat) (ht : t < 24) (v : Int) : LastAt (w.setCell ⟨g, t, none⟩ (.int .i64 v)) g (updL f [(t : Int)] v) := fun i hi => by
  obtain ⟨h1, h2⟩ := h i hi
  refine ⟨?_, ?_⟩
  · by_cases e : i = t
    · subst e
      rw [World.cell?_setCell_same _ _ _ h1]; simp [updL]
    · rw [World.cell?_setCell_other _ _ _ _ (fun q => e (congrArg Addr.off q).symm), h1]
      have : ¬ ((i : Int) = (t : Int)) := by omega
      simp [updL, this]
  · rw [← h2]; simp
theorem LastAt.lt {w : World} {g : Nat} {f : Int → Int} (h : LastAt w g f) : g < w.heap.size := World.block_lt_of_cell? w ⟨g, 0, none⟩ (h 0 (by omega)).1
theorem IntsAt.putFar {w : World} {ao : Option Addr} {n : Nat} {l : List Int} (h : IntsAt w ao n l) {g k : Nat} {u : Value} (hne : ∀ b o, ao = some ⟨b, o, none⟩ → b ≠ g) : IntsAt (w.setCell ⟨g, k, none⟩ u) ao n l := by
  refine ⟨h.1, ?_⟩
  rcases h.2 with h0 | ⟨b, o, e, hb, hc⟩
  · exact Or.inl h0
  · refine Or.inr ⟨b, o, e, by simpa using hb, fun t ht => ?_⟩
    rw [World.cell?_setCell_other _ _ _ _ (fun q => hne b o e (congrArg Addr.block q).symm)]
    exact hc t ht
theorem lastAt_new (w : World) : LastAt (w.alloc (.cells (Array.replicate 24 (.int .i64 0)) 112)) w.heap.size (fun _ => 0) := fun i hi => by
  have hr : (w.alloc (.cells (Array.replicate 24 (.int .i64 0)) 112)).heap[w.heap.size]? = some (.cells (Array.replicate 24 (.int .i64 0)) 112 (0, 0)) := heap_alloc_new w _
  refine ⟨?_, frozen_of_row _ _ i _ _ hr⟩
  rw [cell_of_row _ _ i _ _ (0, 0) hr]
  simp [hi]

/-- What a checked operation keeps to. -/
structure LvFit (o : Gop) : Prop where
  kd : 1 ≤ o.kind ∧ o.kind ≤ 6
  bit : 0 ≤ o.bit ∧ o.bit ≤ 12
  cnd : ∀ t ∈ o.cnd, -12 ≤ t ∧ t ≤ 12
  ctl : (o.ctl.length + 26) * 8 ≤ 140737488355328
  few : o.cnd.length ≤ 24
  pl : ∀ t ∈ plP o, 0 ≤ t ∧ t < 24

end Go.Proofs.YtlokfalkhgjlbaaDoor
namespace Go.Proofs.YtlokfalkhgjlbaaDoor
open Go.RowKit

set_option maxHeartbeats 4000000 in
set_option maxRecDepth 100000 in
theorem RCheck_any (c : Gci) (ao : Option Addr) (n cp : Nat) (w : World) (h : OpsAt w ao n c.ops) (_hn : n ≤ cp) (_hcp : cp ≤ 9223372036854775807) :
    Calls Tryd.prog 16 #[.agg #[.int .i64 c.qubits, .int .i64 c.bits, .slice ao n cp]] w fun e w' => e = .returned (.agg #[.int .i64 (chk c).1, .int .i64 (chk c).2]) ∧ Ext w w' := by
  obtain ⟨r, hr⟩ : ∃ r, chk c = r := ⟨_, rfl⟩
  rw [hr]
  obtain ⟨r0, r1⟩ := r
  unfold chk at hr
  obtain ⟨qb, bi, ops⟩ := c
  have E0 := (ext_al w (.cells #[.int .i64 qb, .int .i64 bi, .slice ao n cp] 34)).trans (ext_al _ (.cells #[.int .i64 0, .int .i64 0] 27))
  have bC : CiB ((w.alloc (.cells #[.int .i64 qb, .int .i64 bi, .slice ao n cp] 34)).alloc (.cells #[.int .i64 0, .int .i64 0] 27)) w.heap.size qb bi ao n cp := CiB.ext ⟨heap_alloc_new w _⟩ (ext_al _ _)
  have bF : FtB ((w.alloc (.cells #[.int .i64 qb, .int .i64 bi, .slice ao n cp] 34)).alloc (.cells #[.int .i64 0, .int .i64 0] 27)) (w.heap.size + 1) 0 0 := ⟨by
    have := heap_alloc_new (w.alloc (.cells #[.int .i64 qb, .int .i64 bi, .slice ao n cp] 34)) (.cells #[.int .i64 0, .int .i64 0] 27)
    simpa using this⟩
  have Hl := Lib.hid h.1
  simp only at hr Hl ⊢
  have HE0 := Lib.hid E0; have HO := Lib.hid (h.ext E0); have HC := Lib.hid bC; have HFt := Lib.hid bF
  have m0 := bC.x0; have m1 := bC.x1; have m2 := bC.x2
  have x0 := bF.x0; have x1 := bF.x1; have g0 := bF.f 0; have g1 := bF.f 1
  clear h E0 bC bF
  by_cases hq1 : qb < 1
  · have hz : (r0, r1) = ((6 : Int), (0 : Int)) := by rw [← hr, if_pos (Or.inl hq1)]
    have HF0 : Hid (r0 = 6) := congrArg Prod.fst hz
    have HF1 : Hid (r1 = 0) := congrArg Prod.snd hz
    clear hr hz
    go_enter Tryd.func16, Tryd.ntmps16
    go_wp2_with fail
    generalize (w.alloc (.cells #[.int .i64 qb, .int .i64 bi, .slice ao n cp] 34)).alloc (.cells #[.int .i64 0, .int .i64 0] 27) = W0 at *
    refine (rfault_any 6 0 _).mono ?_
    rintro e wz ⟨rfl, hxz⟩
    have bz := HFt.out.ext hxz; have x0' := bz.x0; have x1' := bz.x1; have g0' := bz.f 0; have g1' := bz.f 1; have HEz := Lib.hid (HE0.out.trans hxz)
    go_wp2_with fail
    exact bodyPost_ret (v := .agg #[.int .i64 6, .int .i64 0]) (by simp [results, Tryd.results16, go_sem, x0', x1']) rfl ⟨by rw [HF0.out, HF1.out], put2x HEz.out (by omega) _ _⟩
  have dq1 := df hq1
  by_cases hq2 : 12 < qb
  · have hz : (r0, r1) = ((6 : Int), (0 : Int)) := by rw [← hr, if_pos (Or.inr hq2)]
    have HF0 : Hid (r0 = 6) := congrArg Prod.fst hz
    have HF1 : Hid (r1 = 0) := congrArg Prod.snd hz
    clear hr hz
    go_enter Tryd.func16, Tryd.ntmps16
    go_wp2_with fail
    generalize (w.alloc (.cells #[.int .i64 qb, .int .i64 bi, .slice ao n cp] 34)).alloc (.cells #[.int .i64 0, .int .i64 0] 27) = W0 at *
    refine (rfault_any 6 0 _).mono ?_
    rintro e wz ⟨rfl, hxz⟩
    have bz := HFt.out.ext hxz; have x0' := bz.x0; have x1' := bz.x1; have g0' := bz.f 0; have g1' := bz.f 1; have HEz := Lib.hid (HE0.out.trans hxz)
    go_wp2_with fail
    exact bodyPost_ret (v := .agg #[.int .i64 6, .int .i64 0]) (by simp [results, Tryd.results16, go_sem, x0', x1']) rfl ⟨by rw [HF0.out, HF1.out], put2x HEz.out (by omega) _ _⟩
  have dq2 := df hq2
  rw [if_neg (by omega)] at hr
  by_cases hb1 : bi < 0
  · have hz : (r0, r1) = ((7 : Int), (0 : Int)) := by rw [← hr, if_pos (Or.inl hb1)]
    have HF0 : Hid (r0 = 7) := congrArg Prod.fst hz
    have HF1 : Hid (r1 = 0) := congrArg Prod.snd hz
    have d1 := dt hb1
    clear hr hz
    go_enter Tryd.func16, Tryd.ntmps16
    go_wp2_with fail
    generalize (w.alloc (.cells #[.int .i64 qb, .int .i64 bi, .slice ao n cp] 34)).alloc (.cells #[.int .i64 0, .int .i64 0] 27) = W0 at *
    refine (rfault_any 7 0 _).mono ?_
    rintro e wz ⟨rfl, hxz⟩
    have bz := HFt.out.ext hxz; have x0' := bz.x0; have x1' := bz.x1; have g0' := bz.f 0; have g1' := bz.f 1; have HEz := Lib.hid (HE0.out.trans hxz)
    go_wp2_with fail
    exact bodyPost_ret (v := .agg #[.int .i64 7, .int .i64 0]) (by simp [results, Tryd.results16, go_sem, x0', x1']) rfl ⟨by rw [HF0.out, HF1.out], put2x HEz.out (by omega) _ _⟩
  have d1 := df hb1
  by_cases hb2 : 12 < bi
  · have hz : (r0, r1) = ((7 : Int), (0 : Int)) := by rw [← hr, if_pos (Or.inr hb2)]
    have HF0 : Hid (r0 = 7) := congrArg Prod.fst hz
    have HF1 : Hid (r1 = 0) := congrArg Prod.snd hz
    have d2 := dt hb2
    clear hr hz
    go_enter Tryd.func16, Tryd.ntmps16
    go_wp2_with fail
    generalize (w.alloc (.cells #[.int .i64 qb, .int .i64 bi, .slice ao n cp] 34)).alloc (.cells #[.int .i64 0, .int .i64 0] 27) = W0 at *
    refine (rfault_any 7 0 _).mono ?_
    rintro e wz ⟨rfl, hxz⟩
    have bz := HFt.out.ext hxz; have x0' := bz.x0; have x1' := bz.x1; have g0' := bz.f 0; have g1' := bz.f 1; have HEz := Lib.hid (HE0.out.trans hxz)
    go_wp2_with fail
    exact bodyPost_ret (v := .agg #[.int .i64 7, .int .i64 0]) (by simp [results, Tryd.results16, go_sem, x0', x1']) rfl ⟨by rw [HF0.out, HF1.out], put2x HEz.out (by omega) _ _⟩
  have d2 := df hb2
  rw [if_neg (by omega), Hl.out] at hr
  by_cases hL : 4096 < n
  · have hz : (r0, r1) = ((2 : Int), (0 : Int)) := by rw [← hr, if_pos hL]
    have HF0 : Hid (r0 = 2) := congrArg Prod.fst hz
    have HF1 : Hid (r1 = 0) := congrArg Prod.snd hz
    have d3 : (4096 : Int) < (n : Int) := by omega
    clear hr hz
    go_enter Tryd.func16, Tryd.ntmps16
    go_wp2_with fail
    generalize (w.alloc (.cells #[.int .i64 qb, .int .i64 bi, .slice ao n cp] 34)).alloc (.cells #[.int .i64 0, .int .i64 0] 27) = W0 at *
    refine (rfault_any 2 0 _).mono ?_
    rintro e wz ⟨rfl, hxz⟩
    have bz := HFt.out.ext hxz; have x0' := bz.x0; have x1' := bz.x1; have g0' := bz.f 0; have g1' := bz.f 1; have HEz := Lib.hid (HE0.out.trans hxz)
    go_wp2_with fail
    exact bodyPost_ret (v := .agg #[.int .i64 2, .int .i64 0]) (by simp [results, Tryd.results16, go_sem, x0', x1']) rfl ⟨by rw [HF0.out, HF1.out], put2x HEz.out (by omega) _ _⟩
  have d3 : ¬ (4096 : Int) < (n : Int) := by omega
  rw [if_neg hL] at hr
  have Hr := Lib.hid hr
  clear hr
  have hab : n = 0 ∨ ∃ b o, ao = some ⟨b, o, none⟩ := by
    by_cases h0 : n = 0
    · exact Or.inl h0
    · exact Or.inr (HO.out.some_of (by omega))
  go_enter Tryd.func16, Tryd.ntmps16
  go_wp2_with fail
  generalize (w.alloc (.cells #[.int .i64 qb, .int .i64 bi, .slice ao n cp] 34)).alloc (.cells #[.int .i64 0, .int .i64 0] 27) = W0 at *
  go_loopg [3] n (fun kk s3 wr => Ext W0 wr ∧ ∃ i : Nat, s3 = .int .i64 (i : Int) ∧ i ≤ n ∧ n - i = kk ∧ (r0, r1) = opsCode qb bi i (ops.drop i))
  case atStart => exact ⟨Ext.refl _, 0, rfl, by omega, by omega, Hr.out.symm⟩
  case round =>
    obtain ⟨hER, i, rfl, hi, hk, hri⟩ := hrel
    have HER := Lib.hid hER
    have bC' := HC.out.ext hER
    have v0 := bC'.x0; have v1 := bC'.x1; have v2 := bC'.x2; have lC := bC'.lt
    clear m0 m1 m2 x0 x1 g0 g1 hER bC'
    by_cases hin : i = n
    · have h2 : ¬ (i : Int) < (n : Int) := by omega
      have hz : (r0, r1) = ((0 : Int), (0 : Int)) := by rw [hri]; exact opsCode_end qb bi ops i (by rw [Hl.out]; omega)
      have HF0 : Hid (r0 = 0) := congrArg Prod.fst hz
      have HF1 : Hid (r1 = 0) := congrArg Prod.snd hz
      have bz := HFt.out.ext HER.out; have x0' := bz.x0; have x1' := bz.x1; have g0' := bz.f 0; have g1' := bz.f 1
      have HEz := Lib.hid (HE0.out.trans HER.out)
      clear hz hri bz
      go_wp2_with fail
      exact bodyPost_ret (v := .agg #[.int .i64 0, .int .i64 0]) (by simp [results, Tryd.results16, go_sem, x0', x1']) rfl ⟨by rw [HF0.out, HF1.out], put2x HEz.out (by omega) _ _⟩
    · have h2 : (i : Int) < (n : Int) := by omega
      have h0 : (0 : Int) ≤ (i : Int) := by omega
      rcases hab with h | ⟨b, o, rfl⟩
      · omega
      obtain ⟨g, hg⟩ : ∃ g, ops[i]? = some g := ⟨_, List.getElem?_eq_getElem (by rw [Hl.out]; omega)⟩
      obtain ⟨a1, n1, c1, a2, n2, c2, e0, e1, e2, e3, e4, e5, hL⟩ := (HO.out.ext HER.out).at i g hg
      have lb := World.block_lt_of_cell? wr ⟨b, o + i * 6, none⟩ e0
      have hst := opsCode_step qb bi ops i g hg
      rw [← hri] at hst
      have HCO := Lib.hid (fun wx (hx : Ext wr wx) => badOp_any g a1 n1 c1 a2 n2 c2 qb bi wx (hL.ext hx) (by omega) (by omega) (by omega))
      obtain ⟨oc, hoc⟩ : ∃ x, opCode g qb bi = x := ⟨_, rfl⟩
      rw [hoc] at HCO hst
      have Hst := Lib.hid hst
      obtain ⟨kd, kk', ctl, qq, bb, cnd⟩ := g
      simp only at e0 e1 e2 e3 e4 e5 HCO
      clear hst hoc hri hg hL
      have hE0d : Ext wr wr.drew := Below.drew (Ext.refl _)
      go_wp2_with fail
      go_region_held3 (fun w' => w'.cell? ⟨w.heap.size, 0, none⟩ = some (.int .i64 qb) ∧ w'.cell? ⟨w.heap.size, 1, none⟩ = some (.int .i64 bi) ∧ w'.cell? ⟨w.heap.size, 2, none⟩ = some (.slice (some ⟨b, o, none⟩) n cp) ∧ w'.cell? ⟨b, o + i * 6, none⟩ = some (.int .i64 kd) ∧ w'.cell? ⟨b, o + i * 6 + 1, none⟩ = some (.int .i64 kk') ∧ w'.cell? ⟨b, o + i * 6 + 2, none⟩ = some (.slice a1 n1 c1) ∧ w'.cell? ⟨b, o + i * 6 + 3, none⟩ = some (.int .i64 qq) ∧ w'.cell? ⟨b, o + i * 6 + 4, none⟩ = some (.int .i64 bb) ∧ w'.cell? ⟨b, o + i * 6 + 5, none⟩ = some (.slice a2 n2 c2))
        (refine ⟨cell_ext (w := wr) v0 ?_, cell_ext (w := wr) v1 ?_, cell_ext (w := wr) v2 ?_, cell_ext (w := wr) e0 ?_, cell_ext (w := wr) e1 ?_, cell_ext (w := wr) e2 ?_, cell_ext (w := wr) e3 ?_, cell_ext (w := wr) e4 ?_, cell_ext (w := wr) e5 ?_⟩ <;> (repeat (first | assumption | refine Below.drew ?_)))
        (first | (go_at_call 37; refine (HCO.out _ (by assumption)).mono ?_; rintro e w6 ⟨rfl, hx6⟩; have he6 : Ext wr w6 := Ext.trans (by assumption) hx6))
      have HE6 := Lib.hid (HER.out.trans he6)
      clear v0 v1 v2 e0 e1 e2 e3 e4 e5 hE0d he6 hx6
      by_cases hc0 : oc = 0
      · have hcb := nf' hc0
        have hz : (r0, r1) = opsCode qb bi (i + 1) (ops.drop (i + 1)) := by rw [Hst.out, if_neg (by simp [hc0])]
        have HF := Lib.hid hz
        clear hz hc0 Hst
        go_wp2_with fail
        go_roundg (n - (i + 1))
        case measure => omega
        case rel => exact ⟨HE6.out, i + 1, by go_num, by omega, rfl, HF.out⟩
      · have hcb := nt hc0
        have hz : (r0, r1) = (oc, (i : Int)) := by rw [Hst.out, if_pos hc0]
        have HF0 : Hid (r0 = oc) := congrArg Prod.fst hz
        have HF1 : Hid (r1 = (i : Int)) := congrArg Prod.snd hz
        clear hz hc0 Hst
        go_wp2_with fail
        refine (rfault_any oc (i : Int) _).mono ?_
        rintro e wz ⟨rfl, hxz⟩
        have bz := HFt.out.ext (HE6.out.trans hxz); have x0' := bz.x0; have x1' := bz.x1; have g0' := bz.f 0; have g1' := bz.f 1
        have HEz := Lib.hid (HE0.out.trans (HE6.out.trans hxz))
        clear bz
        go_wp2_with fail
        exact bodyPost_ret (v := .agg #[.int .i64 oc, .int .i64 (i : Int)]) (by simp [results, Tryd.results16, go_sem, x0', x1']) rfl ⟨by rw [HF0.out, HF1.out], put2x HEz.out (by omega) _ _⟩

end Go.Proofs.YtlokfalkhgjlbaaDoor
namespace Go.Proofs.YtlokfalkhgjlbaaDoor
open Go.RowKit

theorem opsCode_zero (q b : Int) (ops : List Gop) : ∀ i, (opsCode q b i ops).1 = 0 → opsCode q b i ops = (0, 0) ∧ ∀ g ∈ ops, opCode g q b = 0 := by
  induction ops with
  | nil => exact fun _ _ => ⟨rfl, fun g hg => by cases hg⟩
  | cons o r ih =>
    intro i h
    rw [opsCode] at h ⊢
    by_cases ho : opCode o q b = 0
    · rw [if_neg (by simp [ho])] at h ⊢
      obtain ⟨e1, e2⟩ := ih (i + 1) h
      exact ⟨e1, fun g hg => by
        rcases List.mem_cons.1 hg with rfl | hg
        · exact ho
        · exact e2 g hg⟩
    · rw [if_pos ho] at h
      exact absurd h ho
theorem chk_zero {c : Gci} (h : (chk c).1 = 0) : chk c = (0, 0) ∧ 1 ≤ c.qubits ∧ c.qubits ≤ 12 ∧ 0 ≤ c.bits ∧ c.bits ≤ 12 ∧ c.ops.length ≤ 4096 ∧ ∀ g ∈ c.ops, opCode g c.qubits c.bits = 0 := by
  unfold chk at h ⊢
  by_cases h1 : c.qubits < 1 ∨ 12 < c.qubits
  · rw [if_pos h1] at h; exact absurd h (by decide)
  rw [if_neg h1] at h ⊢
  by_cases h2 : c.bits < 0 ∨ 12 < c.bits
  · rw [if_pos h2] at h; exact absurd h (by decide)
  rw [if_neg h2] at h ⊢
  by_cases h3 : 4096 < c.ops.length
  · rw [if_pos h3] at h; exact absurd h (by decide)
  rw [if_neg h3] at h ⊢
  obtain ⟨e1, e2⟩ := opsCode_zero _ _ _ _ h
  exact ⟨e1, by omega, by omega, by omega, by omega, by omega, e2⟩

end Go.Proofs.YtlokfalkhgjlbaaDoor
namespace Go.Proofs.YtlokfalkhgjlbaaDoor
open Go.RowKit

theorem pigeon : ∀ (k : Nat) (l : List Int), l.Nodup → (∀ c ∈ l, 0 ≤ c ∧ c < (k : Int)) → l.length ≤ k := by
  intro k
  induction k with
  | zero =>
    intro l _ h
    cases l with
    | nil => simp
    | cons a r => have := h a (by simp); omega
  | succ k ih =>
    intro l hn h
    by_cases hm : (k : Int) ∈ l
    · have h1 := ih (l.erase (k : Int)) (hn.erase _) (fun c hc => by
        have hc' := hn.mem_erase_iff.1 hc
        have := h c hc'.2
        have := hc'.1
        omega)
      have h2 := List.length_erase_of_mem hm
      omega
    · have := ih l hn (fun c hc => by
        have h3 := h c hc
        have : c ≠ (k : Int) := fun e => hm (e ▸ hc)
        omega)
      omega

theorem below_iff {n b : Int} : below n b = true ↔ 0 ≤ n ∧ n < b := by simp [below]
theorem ctlCode_zero (q n : Int) : ∀ (l s : List Int), ctlCode q n s l = 0 → (∀ c ∈ l, 0 ≤ c ∧ c < n) ∧ (s.Nodup → (s ++ l).Nodup) := by
  intro l
  induction l with
  | nil => intro s _; exact ⟨by simp, by simp⟩
  | cons c r ih =>
    intro s h
    rw [ctlCode] at h
    split at h
    · omega
    · rename_i hb
      split at h
      · omega
      · rename_i hc
        obtain ⟨h1, h2⟩ := ih _ h
        have hb' : below c n = true := by cases hx : below c n with
          | true => rfl
          | false => exact absurd hx hb
        refine ⟨?_, ?_⟩
        · intro x hx
          rcases List.mem_cons.1 hx with rfl | hx
          · exact below_iff.1 hb'
          · exact h1 x hx
        · intro hs
          have hcs : c ∉ s := fun e => hc (Or.inr e)
          have := h2 (by
            rw [List.nodup_append]
            refine ⟨hs, by simp, ?_⟩
            intro a ha b hb e
            simp at hb
            subst hb; subst e
            exact hcs ha)
          simpa using this

theorem fit_of_code {o : Gop} {n b : Int} (hn : n ≤ 12) (hb0 : 0 ≤ b) (hb : b ≤ 12) (h : opCode o n b = 0) : LvFit o ∧ placesFit o ∧ o.ctl.length ≤ 12 ∧ (∀ c ∈ o.ctl, 0 ≤ c ∧ c < n) := by
  unfold opCode at h
  split at h
  · omega
  rename_i hk
  split at h
  · omega
  split at h
  · omega
  rename_i hq
  split at h
  · omega
  split at h
  · exact absurd h (by assumption)
  rename_i hc
  split at h
  · omega
  rename_i hbit
  split at h
  · omega
  rename_i hcn
  have hc0 : ctlCode o.q n [] o.ctl = 0 := by
    by_cases e : ctlCode o.q n [] o.ctl = 0
    · exact e
    · exact absurd e hc
  obtain ⟨z1, z2⟩ := ctlCode_zero o.q n o.ctl [] hc0
  have z3 : o.ctl.Nodup := by simpa using z2 (by simp)
  have z4 := pigeon 12 o.ctl z3 (fun c hc => by have := z1 c hc; omega)
  have q1 : 0 ≤ o.q ∧ o.q < 12 := by
    unfold fitsB at hq
    split at hq
    · have : below o.q n = true := by simpa using hq
      have := below_iff.1 this; omega
    · have : o.q = 0 := by simpa using hq
      omega
  have b1 : 0 ≤ o.bit ∧ o.bit ≤ 12 ∧ (o.kind = 5 → o.bit < 12) := by
    unfold fitsB at hbit
    split at hbit
    · have : below o.bit b = true := by simpa using hbit
      have := below_iff.1 this; omega
    · have : o.bit = 0 := by simpa using hbit
      omega
  have c1 : o.cnd.length ≤ 24 ∧ ∀ t ∈ o.cnd, t ≠ 0 ∧ -12 ≤ t ∧ t ≤ 12 := by
    have : cndOk b o.cnd = true := by simpa using hcn
    unfold cndOk at this
    simp only [Bool.and_eq_true, decide_eq_true_eq, List.all_eq_true] at this
    refine ⟨this.1, fun t ht => ?_⟩
    have ht' := this.2 t ht
    unfold termOk at ht'
    simp at ht'
    omega
  refine ⟨⟨by omega, ⟨b1.1, b1.2.1⟩, fun t ht => (c1.2 t ht).2, by omega, c1.1, ?_⟩, ⟨fun t ht => by have := z1 t ht; omega, q1.2, b1.1, fun t ht => (c1.2 t ht).1⟩, z4, z1⟩
  intro t ht
  unfold plP at ht
  simp only [List.mem_append] at ht
  rcases ht with ((ht | ht) | ht) | ht
  · have := z1 t ht; omega
  · unfold tchQ at ht
    split at ht
    · simp at ht
    · simp at ht; omega
  · unfold tchB at ht
    split at ht
    · simp at ht; have := b1.2.2 (by assumption); omega
    · simp at ht
  · unfold tchC at ht
    simp only [List.mem_map] at ht
    obtain ⟨u, hu, rfl⟩ := ht
    have := c1.2 u hu
    unfold bitOf
    split <;> omega

end Go.Proofs.YtlokfalkhgjlbaaDoor
namespace Go.Proofs.YtlokfalkhgjlbaaDoor
open Go.RowKit

/-- How many of the operations are such. -/
def cntP (p : Gop → Bool) (l : List Gop) : Int := ((l.filter p).length : Int)
theorem cntP_yes {p : Gop → Bool} {l : List Gop} {o : Gop} (h : p o = true) : cntP p (l ++ [o]) = cntP p l + 1 := by simp [cntP, List.filter_append, h]
theorem cntP_no {p : Gop → Bool} {l : List Gop} {o : Gop} (h : p o = false) : cntP p (l ++ [o]) = cntP p l := by simp [cntP, List.filter_append, h]
theorem cntP_bound (p : Gop → Bool) (l : List Gop) : 0 ≤ cntP p l ∧ cntP p l ≤ (l.length : Int) := by
  have := List.length_filter_le p l
  unfold cntP; omega
theorem cdrew {w W : World} (h : Ext w W) : Ext w W.drew := Below.drew h


end Go.Proofs.YtlokfalkhgjlbaaDoor
namespace Go.Proofs.YtlokfalkhgjlbaaDoor
open Go.RowKit

theorem stepK_storeI {ops : Array Oper} {o : Oper} {a : Act} {K : Act → World → Prop} {Q : Exit → Act → World → Prop} {E : Prop} {w : World} (hgd : o.guard = none) (hd : o.dst = none) (p x : Operand)
    (ho : o.op = .store 36 p x) (b off : Nat) (a' : Option Addr) (n' c' : Nat) (u : Value) (hp : a.eval p = .pointer (some ⟨b, off, none⟩)) (hx : a.eval x = .slice a' n' c')
    (hcell : w.cell? ⟨b, off, none⟩ = some u) (hfz : w.frozen? ⟨b, off, none⟩ = false) (h : K a (w.setCell ⟨b, off, none⟩ (.slice a' n' c'))) :
    if Region.wanted o (yielded ops a.tmps) = true then Oper.wp Tryd.prog o a w K Q else E := by
  have hw : Region.wanted o (yielded ops a.tmps) = true := by simp [Region.wanted, hgd]
  rw [if_pos hw]
  obtain ⟨od, oo, ot, opp, oa, og⟩ := o
  simp only at ho hd
  subst ho hd
  have HH := Lib.hid h
  clear h
  unfold Oper.wp execOp
  simp only [hp, hx]
  go_simp
  exact HH.out

end Go.Proofs.YtlokfalkhgjlbaaDoor
namespace Go.Proofs.YtlokfalkhgjlbaaDoor
open Go.RowKit

/-- A list in a block of its own, not older than base. -/
def Iow (w : World) (base : Nat) (a : Option Addr) (n c : Nat) (l : List Int) : Prop := w.ownsRow base 3 1 (.slice a n c) n (iC l)
section
variable {w w' : World} {base base' : Nat} {a : Option Addr} {n c : Nat} {l : List Int}
theorem Iow.keep (h : Iow w base a n c l) (hk : ∀ (b : Nat) (cur : Array Value) (fr : Nat × Nat), w.heap[b]? = some (.cells cur 3 fr) → w'.heap[b]? = w.heap[b]?) : Iow w' base a n c l := own_keep h fun g cur _ hg => hk g cur (0, 0) hg
theorem Iow.ext (h : Iow w base a n c l) (k : Ext w w') : Iow w' base a n c l := own_keep h fun g _ _ hg => k.block g (Array.getElem?_eq_some_iff.1 hg).1
theorem Iow.down (h : Iow w base a n c l) (hb : base' ≤ base) : Iow w base' a n c l := by
  refine ⟨h.1, ?_⟩
  rcases h.2 with h | ⟨g, cap, cur, hv, hbg, rest⟩
  · exact Or.inl h
  · exact Or.inr ⟨g, cap, cur, hv, by omega, rest⟩
theorem Iow.lt (h : Iow w base a n c l) : ∀ k, (Value.slice a n c).ownBlock = some k → base ≤ k ∧ k < w.heap.size := own_lt h
theorem Iow.kind (h : Iow w base a n c l) : ∀ k, (Value.slice a n c).ownBlock = some k → ∃ cur fr, w.heap[k]? = some (.cells cur 3 fr) := fun k hk => (PtKind h k hk).2
theorem Iow.ints (h : Iow w base a n c l) : n ≤ c ∧ c ≤ maxLen ∧ IntsAt w a n l ∧ TyI w a := by
  obtain ⟨a', c', e, h1, h2, h3, h4⟩ := ints_of_own h
  injection e with e1 e2 e3
  subst e1; subst e3
  exact ⟨h1, h2, h3, h4⟩
theorem io_of_own {v : Value} (h : w.ownsRow base 3 1 v n (iC l)) : ∃ (a : Option Addr) (c : Nat), v = .slice a n c ∧ Iow w base a n c l := by
  obtain ⟨a', c', rfl, _⟩ := ints_of_own h
  exact ⟨a', c', rfl, h⟩
end

/-- An operation whose lists lie each in a block of its own. -/
structure OpN (w : World) (base : Nat) (o : Gop) (a1 : Option Addr) (n1 c1 : Nat) (a2 : Option Addr) (n2 c2 : Nat) : Prop where
  i1 : Iow w base a1 n1 c1 o.ctl
  i2 : Iow w base a2 n2 c2 o.cnd
  ne : ∀ k, (Value.slice a1 n1 c1).ownBlock = some k → (Value.slice a2 n2 c2).ownBlock ≠ some k
section
variable {w w' : World} {base base' : Nat} {o : Gop} {a1 : Option Addr} {n1 c1 : Nat} {a2 : Option Addr} {n2 c2 : Nat}
theorem OpN.keep (h : OpN w base o a1 n1 c1 a2 n2 c2) (hk : ∀ (b : Nat) (cur : Array Value) (fr : Nat × Nat), w.heap[b]? = some (.cells cur 3 fr) → w'.heap[b]? = w.heap[b]?) : OpN w' base o a1 n1 c1 a2 n2 c2 := ⟨h.i1.keep hk, h.i2.keep hk, h.ne⟩
theorem OpN.ext (h : OpN w base o a1 n1 c1 a2 n2 c2) (k : Ext w w') : OpN w' base o a1 n1 c1 a2 n2 c2 := ⟨h.i1.ext k, h.i2.ext k, h.ne⟩
theorem OpN.down (h : OpN w base o a1 n1 c1 a2 n2 c2) (hb : base' ≤ base) : OpN w base' o a1 n1 c1 a2 n2 c2 := ⟨h.i1.down hb, h.i2.down hb, h.ne⟩
theorem OpN.opO (h : OpN w base o a1 n1 c1 a2 n2 c2) : OpO w o a1 n1 c1 a2 n2 c2 := by
  obtain ⟨p1, p2, p3, p4⟩ := h.i1.ints
  obtain ⟨q1, q2, q3, q4⟩ := h.i2.ints
  exact ⟨⟨p3, p1, by unfold maxLen at p2; omega, q3, q1, by unfold maxLen at q2; omega⟩, p4, q4⟩
end

/-- Among the first m cells no two lead into one block. -/
def SepF (m : Nat) (f : Nat → Option Value) : Prop := ∀ i j k u v, i < m → j < m → f i = some u → f j = some v → u.ownBlock = some k → v.ownBlock = some k → i = j
/-- Operations, cell by cell. -/
def RowF (w : World) (base : Nat) (f : Nat → Option Value) (ops : List Gop) : Prop :=
  ∀ t g, ops[t]? = some g → ∃ (a1 : Option Addr) (n1 c1 : Nat) (a2 : Option Addr) (n2 c2 : Nat),
    f (t * 6) = some (.int .i64 g.kind) ∧ f (t * 6 + 1) = some (.int .i64 g.k) ∧ f (t * 6 + 2) = some (.slice a1 n1 c1) ∧ f (t * 6 + 3) = some (.int .i64 g.q) ∧ f (t * 6 + 4) = some (.int .i64 g.bit) ∧ f (t * 6 + 5) = some (.slice a2 n2 c2) ∧ OpN w base g a1 n1 c1 a2 n2 c2
section
variable {w w' : World} {base base' : Nat} {f f' : Nat → Option Value} {ops : List Gop}
theorem RowF.map (h : RowF w base f ops) (hk : ∀ g a1 n1 c1 a2 n2 c2, OpN w base g a1 n1 c1 a2 n2 c2 → OpN w' base' g a1 n1 c1 a2 n2 c2) : RowF w' base' f ops := fun t g hg => by
  obtain ⟨a1, n1, c1, a2, n2, c2, e0, e1, e2, e3, e4, e5, e6⟩ := h t g hg
  exact ⟨a1, n1, c1, a2, n2, c2, e0, e1, e2, e3, e4, e5, hk _ _ _ _ _ _ _ e6⟩
theorem RowF.blocks (h : RowF w base f ops) {i : Nat} {u : Value} {k : Nat} (hi : i < ops.length * 6) (hu : f i = some u) (hk : u.ownBlock = some k) : base ≤ k ∧ k < w.heap.size ∧ ∃ cur fr, w.heap[k]? = some (.cells cur 3 fr) := by
  obtain ⟨t, r, hr, rfl⟩ : ∃ t r, r < 6 ∧ i = t * 6 + r := ⟨i / 6, i % 6, by omega, by omega⟩
  have ht : t < ops.length := by omega
  obtain ⟨a1, n1, c1, a2, n2, c2, e0, e1, e2, e3, e4, e5, e6⟩ := h t _ (List.getElem?_eq_getElem ht)
  have : r = 0 ∨ r = 1 ∨ r = 2 ∨ r = 3 ∨ r = 4 ∨ r = 5 := by omega
  rcases this with rfl | rfl | rfl | rfl | rfl | rfl
  · rw [Nat.add_zero, e0] at hu; cases hu; simp [Value.ownBlock] at hk
  · rw [e1] at hu; cases hu; simp [Value.ownBlock] at hk
  · rw [e2] at hu; cases hu; exact ⟨(e6.i1.lt k hk).1, (e6.i1.lt k hk).2, e6.i1.kind k hk⟩
  · rw [e3] at hu; cases hu; simp [Value.ownBlock] at hk
  · rw [e4] at hu; cases hu; simp [Value.ownBlock] at hk
  · rw [e5] at hu; cases hu; exact ⟨(e6.i2.lt k hk).1, (e6.i2.lt k hk).2, e6.i2.kind k hk⟩
end

/-- Operations in a row of the call's own, their lists each in a block of its own; xs are the row's cells. -/
structure OpsX (w : World) (base : Nat) (v : Value) (ops : List Gop) (xs : List Value) : Prop where
  own : w.ownsRow base 46 6 v ops.length xs
  sep : SepF (ops.length * 6) (fun i => xs[i]?)
  row : RowF w base (fun i => xs[i]?) ops
def OpsN (w : World) (base : Nat) (v : Value) (ops : List Gop) : Prop := ∃ xs, OpsX w base v ops xs
section
variable {w w' : World} {base base' : Nat} {v : Value} {ops : List Gop} {xs : List Value}
theorem OpsX.nil (w : World) (base : Nat) : OpsX w base (.slice none 0 0) [] [] := ⟨⟨rfl, Or.inl ⟨rfl, rfl⟩⟩, fun i j k u v hi => by simp at hi, fun t g h => by simp at h⟩
theorem OpsN.nil (w : World) (base : Nat) : OpsN w base (.slice none 0 0) [] := ⟨[], OpsX.nil w base⟩
theorem OpsX.ext (h : OpsX w base v ops xs) (k : Ext w w') : OpsX w' base v ops xs :=
  ⟨own_keep h.own (fun g _ _ hg => k.block g (Array.getElem?_eq_some_iff.1 hg).1), h.sep, h.row.map fun _ _ _ _ _ _ _ o => o.ext k⟩
theorem OpsN.ext (h : OpsN w base v ops) (k : Ext w w') : OpsN w' base v ops := h.elim fun _ hx => ⟨_, hx.ext k⟩
theorem own_keep3 {e : TypeId} {size n : Nat} (h : w.ownsRow base e size v n xs) (hk : ∀ g, v.ownBlock = some g → w'.heap[g]? = w.heap[g]?) : w'.ownsRow base e size v n xs := by
  refine ⟨h.1, ?_⟩
  rcases h.2 with h | ⟨g, cap, cur, hv, hb, hg, rest⟩
  · exact Or.inl h
  · exact Or.inr ⟨g, cap, cur, hv, hb, (hk g (by rw [hv]; rfl)).trans hg, rest⟩
theorem OpsX.keep (h : OpsX w base v ops xs) (hv : ∀ g, v.ownBlock = some g → w'.heap[g]? = w.heap[g]?) (hk : ∀ (b : Nat) (cur : Array Value) (fr : Nat × Nat), w.heap[b]? = some (.cells cur 3 fr) → w'.heap[b]? = w.heap[b]?) : OpsX w' base v ops xs :=
  ⟨own_keep3 h.own hv, h.sep, h.row.map fun _ _ _ _ _ _ _ o => o.keep hk⟩
/-- An older block is written, not of ints. -/
theorem OpsX.only {k : Nat} {cs : Array Value} {T : TypeId} {fr : Nat × Nat} (h : OpsX w base v ops xs) (hk : w.heap[k]? = some (.cells cs T fr)) (hT : T ≠ 3) (hO : Only k w w') (hb : k < base) : OpsX w' base v ops xs :=
  h.keep (fun g hg => hO.block g (by have := (PtKind h.own g hg).1; omega)) (only_ints hk hT hO)
theorem OpsN.only {k : Nat} {cs : Array Value} {T : TypeId} {fr : Nat × Nat} (h : OpsN w base v ops) (hk : w.heap[k]? = some (.cells cs T fr)) (hT : T ≠ 3) (hO : Only k w w') (hb : k < base) : OpsN w' base v ops := h.elim fun _ hx => ⟨_, hx.only hk hT hO hb⟩
theorem OpsN.down (h : OpsN w base v ops) (hb : base' ≤ base) : OpsN w base' v ops := by
  obtain ⟨xs, h⟩ := h
  refine ⟨xs, ⟨⟨h.own.1, ?_⟩, h.sep, h.row.map fun _ _ _ _ _ _ _ o => o.down hb⟩⟩
  rcases h.own.2 with h | ⟨g, cap, cur, hv, hbg, rest⟩
  · exact Or.inl h
  · exact Or.inr ⟨g, cap, cur, hv, by omega, rest⟩
theorem OpsN.o (h : OpsN w base v ops) : OpsO w base v ops := by
  obtain ⟨xs, h⟩ := h
  refine ⟨xs, h.own, fun t g hg => ?_⟩
  obtain ⟨a1, n1, c1, a2, n2, c2, e0, e1, e2, e3, e4, e5, e6⟩ := h.row t g hg
  exact ⟨a1, n1, c1, a2, n2, c2, e0, e1, e2, e3, e4, e5, e6.opO⟩
/-- What is named: where it lies, how much there is, all of it there. -/
theorem OpsN.at {a : Option Addr} {n c : Nat} (h : OpsN w base (.slice a n c) ops) : ops.length = n ∧ n ≤ c ∧ c ≤ 9223372036854775807 ∧ OpsAt w a n ops := by
  obtain ⟨a9, c9, ev9, h1, h2, h3⟩ := h.o.at
  injection ev9 with ea en ec
  subst ea; subst ec; subst en
  exact ⟨rfl, h1, by unfold maxLen at h2; omega, h3⟩
theorem OpsX.old (h : OpsX w base v ops xs) : ∀ (i : Nat) (u : Value) (k : Nat), xs[i]? = some u → u.ownBlock = some k → k < w.heap.size := fun i u k hu hk => by
  have hi : i < ops.length * 6 := by rw [← h.own.1]; exact (List.getElem?_eq_some_iff.1 hu).1
  exact (h.row.blocks hi hu hk).2.1
end
theorem six_block {k0 k1 : Int} {a1 : Option Addr} {n1 c1 : Nat} {k3 k4 : Int} {a2 : Option Addr} {n2 c2 : Nat} {j k : Nat} {u : Value} (hu : ([.int .i64 k0, .int .i64 k1, .slice a1 n1 c1, .int .i64 k3, .int .i64 k4, .slice a2 n2 c2] : List Value)[j]? = some u) (hk : u.ownBlock = some k) :
    (j = 2 ∧ (Value.slice a1 n1 c1).ownBlock = some k) ∨ (j = 5 ∧ (Value.slice a2 n2 c2).ownBlock = some k) := by
  match j, hu with
  | 0, hu => simp at hu; subst hu; simp [Value.ownBlock] at hk
  | 1, hu => simp at hu; subst hu; simp [Value.ownBlock] at hk
  | 2, hu => simp at hu; subst hu; exact Or.inl ⟨rfl, hk⟩
  | 3, hu => simp at hu; subst hu; simp [Value.ownBlock] at hk
  | 4, hu => simp at hu; subst hu; simp [Value.ownBlock] at hk
  | 5, hu => simp at hu; subst hu; exact Or.inr ⟨rfl, hk⟩
  | n + 6, hu => simp at hu
/-- One more behind them, its lists in blocks that are newer. -/
theorem OpsX.snoc {w w' : World} {base B : Nat} {v v' : Value} {ops : List Gop} {xs : List Value} {g : Gop} {a1 : Option Addr} {n1 c1 : Nat} {a2 : Option Addr} {n2 c2 : Nat} (h : OpsX w base v ops xs)
    (h1 : w'.ownsRow base 46 6 v' (ops.length + 1) (xs ++ [.int .i64 g.kind, .int .i64 g.k, .slice a1 n1 c1, .int .i64 g.q, .int .i64 g.bit, .slice a2 n2 c2]))
    (hk : ∀ (b : Nat) (cur : Array Value) (fr : Nat × Nat), w.heap[b]? = some (.cells cur 3 fr) → w'.heap[b]? = w.heap[b]?)
    (hB : ∀ (i : Nat) (u : Value) (k : Nat), xs[i]? = some u → u.ownBlock = some k → k < B) (hb : base ≤ B) (hO : OpN w' B g a1 n1 c1 a2 n2 c2) :
    OpsX w' base v' (ops ++ [g]) (xs ++ [.int .i64 g.kind, .int .i64 g.k, .slice a1 n1 c1, .int .i64 g.q, .int .i64 g.bit, .slice a2 n2 c2]) := by
  have hx : xs.length = ops.length * 6 := h.own.1
  have hl : (ops ++ [g]).length = ops.length + 1 := by simp
  have hr : ∀ j, (xs ++ [.int .i64 g.kind, .int .i64 g.k, .slice a1 n1 c1, .int .i64 g.q, .int .i64 g.bit, .slice a2 n2 c2])[ops.length * 6 + j]? = ([.int .i64 g.kind, .int .i64 g.k, .slice a1 n1 c1, .int .i64 g.q, .int .i64 g.bit, .slice a2 n2 c2] : List Value)[j]? := fun j => by
    rw [List.getElem?_append_right (by omega), hx, Nat.add_sub_cancel_left]
  have hlft : ∀ i, i < ops.length * 6 → (xs ++ [.int .i64 g.kind, .int .i64 g.k, .slice a1 n1 c1, .int .i64 g.q, .int .i64 g.bit, .slice a2 n2 c2])[i]? = xs[i]? := fun i hi => List.getElem?_append_left (by omega)
  refine ⟨by rw [hl]; exact h1, ?_, ?_⟩
  · rw [hl]
    intro i j k u v hi hj eu ev ku kv
    simp only at eu ev
    have key : ∀ p q x y, p < ops.length * 6 → ops.length * 6 ≤ q → (xs ++ [.int .i64 g.kind, .int .i64 g.k, .slice a1 n1 c1, .int .i64 g.q, .int .i64 g.bit, .slice a2 n2 c2])[p]? = some x → (xs ++ [.int .i64 g.kind, .int .i64 g.k, .slice a1 n1 c1, .int .i64 g.q, .int .i64 g.bit, .slice a2 n2 c2])[q]? = some y → x.ownBlock = some k → y.ownBlock = some k → False := by
      intro p q x y hp hq ex ey kx ky
      rw [hlft p hp] at ex
      have h1 := hB p x k ex kx
      obtain ⟨r, rfl⟩ : ∃ r, q = ops.length * 6 + r := ⟨q - ops.length * 6, by omega⟩
      rw [hr] at ey
      rcases six_block ey ky with ⟨_, e⟩ | ⟨_, e⟩
      · have := (hO.i1.lt k e).1; omega
      · have := (hO.i2.lt k e).1; omega
    by_cases h1 : i < ops.length * 6
    · by_cases h2 : j < ops.length * 6
      · exact h.sep i j k u v h1 h2 (by rw [hlft i h1] at eu; exact eu) (by rw [hlft j h2] at ev; exact ev) ku kv
      · exact (key i j u v h1 (by omega) eu ev ku kv).elim
    · by_cases h2 : j < ops.length * 6
      · exact (key j i v u h2 (by omega) ev eu kv ku).elim
      · obtain ⟨r, rfl⟩ : ∃ r, i = ops.length * 6 + r := ⟨i - ops.length * 6, by omega⟩
        obtain ⟨s, rfl⟩ : ∃ s, j = ops.length * 6 + s := ⟨j - ops.length * 6, by omega⟩
        rw [hr] at eu ev
        rcases six_block eu ku with ⟨e1, f1⟩ | ⟨e1, f1⟩ <;> rcases six_block ev kv with ⟨e2, f2⟩ | ⟨e2, f2⟩
        · omega
        · exact absurd f2 (hO.ne k f1)
        · exact absurd f1 (hO.ne k f2)
        · omega
  · intro t gg hgg
    have ht := (List.getElem?_eq_some_iff.1 hgg).1
    rw [hl] at ht
    by_cases e : t = ops.length
    · subst e
      rw [List.getElem?_append_right (Nat.le_refl _), Nat.sub_self] at hgg
      cases hgg
      exact ⟨a1, n1, c1, a2, n2, c2, hr 0, hr 1, hr 2, hr 3, hr 4, hr 5, hO.down hb⟩
    · rw [List.getElem?_append_left (by omega)] at hgg
      obtain ⟨b1, m1, d1, b2, m2, d2, e0, e1, e2, e3, e4, e5, e6⟩ := h.row t gg hgg
      exact ⟨b1, m1, d1, b2, m2, d2, (hlft _ (by omega)).trans e0, (hlft _ (by omega)).trans e1, (hlft _ (by omega)).trans e2, (hlft _ (by omega)).trans e3, (hlft _ (by omega)).trans e4, (hlft _ (by omega)).trans e5, e6.keep hk⟩

end Go.Proofs.YtlokfalkhgjlbaaDoor
namespace Go.Proofs.YtlokfalkhgjlbaaDoor
/-- Are the two linked? -/
def lk (W : List Nat) (a b : Nat) : Bool := (W.getD a 0).testBit b
/-- A set with all that the first k of the web are linked to. -/
def widK (W : List Nat) (s : Nat) : Nat → Nat
  | 0 => s
  | k + 1 => if s.testBit k then widK W s k ||| W.getD k 0 else widK W s k
theorem widK_bit (W : List Nat) (s k b : Nat) : (widK W s k).testBit b = true ↔ s.testBit b = true ∨ ∃ q, q < k ∧ s.testBit q = true ∧ lk W q b = true := by
  induction k with
  | zero => simp [widK]
  | succ k ih =>
    unfold widK
    by_cases h : s.testBit k = true
    · rw [if_pos h, Nat.testBit_or, Bool.or_eq_true, ih]
      constructor
      · rintro ((h1 | ⟨q, h1, h2, h3⟩) | h1)
        · exact Or.inl h1
        · exact Or.inr ⟨q, by omega, h2, h3⟩
        · exact Or.inr ⟨k, by omega, h, h1⟩
      · rintro (h1 | ⟨q, h1, h2, h3⟩)
        · exact Or.inl (Or.inl h1)
        · by_cases e : q = k
          · subst e; exact Or.inr h3
          · exact Or.inl (Or.inr ⟨q, by omega, h2, h3⟩)
    · rw [if_neg h, ih]
      constructor
      · rintro (h1 | ⟨q, h1, h2, h3⟩)
        · exact Or.inl h1
        · exact Or.inr ⟨q, by omega, h2, h3⟩
      · rintro (h1 | ⟨q, h1, h2, h3⟩)
        · exact Or.inl h1
        · by_cases e : q = k
          · subst e; exact absurd h2 h
          · exact Or.inr ⟨q, by omega, h2, h3⟩
def wid (W : List Nat) (s : Nat) : Nat := widK W s 12
def bal (W : List Nat) (s : Nat) : Nat → Nat
  | 0 => s
  | n + 1 => wid W (bal W s n)
/-- A web of N qubits: symmetric, below N. -/
structure WebOk (W : List Nat) (N : Nat) : Prop where
  len : W.length = 12
  n12 : N ≤ 12
  lt : ∀ a b, lk W a b = true → a < N ∧ b < N ∧ a ≠ b
  sym : ∀ a b, lk W a b = true → lk W b a = true
section
variable {W : List Nat} {N : Nat}
theorem WebOk.val (h : WebOk W N) (a : Nat) : W.getD a 0 < 2 ^ N := by
  refine Nat.lt_pow_two_of_testBit _ fun i hi => ?_
  by_cases e : (W.getD a 0).testBit i = true
  · have := (h.lt a i e).2.1; omega
  · simpa using e
theorem wid_bit (h : WebOk W N) (s b : Nat) : (wid W s).testBit b = true ↔ s.testBit b = true ∨ ∃ q, s.testBit q = true ∧ lk W q b = true := by
  unfold wid
  rw [widK_bit]
  constructor
  · rintro (h1 | ⟨q, _, h2⟩)
    · exact Or.inl h1
    · exact Or.inr ⟨q, h2⟩
  · rintro (h1 | ⟨q, h2, h3⟩)
    · exact Or.inl h1
    · exact Or.inr ⟨q, by have := (h.lt q b h3).1; have := h.n12; omega, h2, h3⟩
theorem widK_lt (h : WebOk W N) {s : Nat} (hs : s < 2 ^ N) (k : Nat) : widK W s k < 2 ^ N := by
  induction k with
  | zero => exact hs
  | succ k ih =>
    unfold widK
    split
    · exact Nat.or_lt_two_pow ih (h.val k)
    · exact ih
theorem bal_lt (h : WebOk W N) {s : Nat} (hs : s < 2 ^ N) (n : Nat) : bal W s n < 2 ^ N := by
  induction n with
  | zero => exact hs
  | succ n ih => exact widK_lt h ih 12
theorem bal_mono (h : WebOk W N) (s n b : Nat) (hb : (bal W s n).testBit b = true) : (bal W s (n + 1)).testBit b = true := (wid_bit h _ _).2 (Or.inl hb)
theorem bal_le (h : WebOk W N) (s b : Nat) {n m : Nat} (hm : n ≤ m) (hb : (bal W s n).testBit b = true) : (bal W s m).testBit b = true := by
  obtain ⟨d, rfl⟩ : ∃ d, m = n + d := ⟨m - n, by omega⟩
  clear hm
  induction d with
  | zero => exact hb
  | succ d ih => exact bal_mono h s (n + d) b ih
/-- How many bits below n are 1. -/
def cnt : Nat → Nat → Nat
  | 0, _ => 0
  | n + 1, s => cnt n s + (if s.testBit n then 1 else 0)
theorem cnt_le (n s : Nat) : cnt n s ≤ n := by
  induction n with
  | zero => exact Nat.le_refl _
  | succ n ih => unfold cnt; split <;> omega
theorem cnt_mono (n : Nat) {s t : Nat} (h : ∀ b, s.testBit b = true → t.testBit b = true) : cnt n s ≤ cnt n t := by
  induction n with
  | zero => exact Nat.le_refl _
  | succ n ih =>
    unfold cnt
    by_cases e : s.testBit n = true
    · rw [if_pos e, if_pos (h n e)]; omega
    · rw [if_neg e]; omega
theorem cnt_grow (n : Nat) {s t q : Nat} (h : ∀ b, s.testBit b = true → t.testBit b = true) (hq : q < n) (h1 : ¬ s.testBit q = true) (h2 : t.testBit q = true) : cnt n s < cnt n t := by
  induction n with
  | zero => omega
  | succ n ih =>
    unfold cnt
    by_cases e : q = n
    · subst e
      rw [if_neg h1, if_pos h2]
      have := cnt_mono q h
      omega
    · have := ih (by omega)
      by_cases e : s.testBit n = true
      · rw [if_pos e, if_pos (h n e)]; omega
      · rw [if_neg e]; omega
theorem cnt_pos {n s q : Nat} (hq : q < n) (h : s.testBit q = true) : 1 ≤ cnt n s := by
  have := cnt_grow n (s := 0) (t := s) (q := q) (fun b hb => by simp at hb) hq (by simp) h
  omega
theorem cnt_full {n s : Nat} (h : n ≤ cnt n s) : ∀ q, q < n → s.testBit q = true := by
  induction n with
  | zero => intro q hq; omega
  | succ n ih =>
    unfold cnt at h
    have := cnt_le n s
    intro q hq
    by_cases e : s.testBit n = true
    · rw [if_pos e] at h
      by_cases e2 : q = n
      · subst e2; exact e
      · exact ih (by omega) q (by omega)
    · rw [if_neg e] at h; omega
/-- Closed: what is linked to one of it is in it. -/
def Closed (W : List Nat) (s : Nat) : Prop := ∀ a b, s.testBit a = true → lk W a b = true → s.testBit b = true
theorem bal_closed (h : WebOk W N) {s o : Nat} (ho : o < N) (hs : s.testBit o = true) (n : Nat) : Closed W (bal W s n) ∨ n + 1 ≤ cnt N (bal W s n) := by
  induction n with
  | zero => exact Or.inr (cnt_pos ho hs)
  | succ n ih =>
    by_cases hc : Closed W (bal W s n)
    · refine Or.inl fun a b ha hb => ?_
      rcases (wid_bit h _ _).1 ha with h1 | ⟨q, h1, h2⟩
      · exact bal_mono h s n b (hc a b h1 hb)
      · exact bal_mono h s n b (hc a b (hc q a h1 h2) hb)
    · rcases ih with h1 | h1
      · exact absurd h1 hc
      · right
        have : ∃ a b, (bal W s n).testBit a = true ∧ lk W a b = true ∧ ¬ (bal W s n).testBit b = true := by
          apply Classical.byContradiction
          intro hn
          refine hc fun a b ha hb => ?_
          apply Classical.byContradiction
          intro hx
          exact hn ⟨a, b, ha, hb, hx⟩
        obtain ⟨a, b, ha, hb, hx⟩ := this
        have := cnt_grow N (s := bal W s n) (t := bal W s (n + 1)) (q := b) (fun c hc => bal_mono h s n c hc) (h.lt a b hb).2.1 hx ((wid_bit h _ _).2 (Or.inr ⟨a, ha, hb⟩))
        omega
/-- Behind N - 1 steps: all there is, or closed. -/
theorem bal_end (h : WebOk W N) {s o : Nat} (ho : o < N) (hs : s.testBit o = true) : Closed W (bal W s (N - 1)) ∨ ∀ q, q < N → (bal W s (N - 1)).testBit q = true := by
  rcases bal_closed h ho hs (N - 1) with h1 | h1
  · exact Or.inl h1
  · exact Or.inr (cnt_full (by omega))
/-- Ways lead from 0. -/
def Rch (W : List Nat) (q : Nat) : Prop := ∀ C : Nat → Prop, C 0 → (∀ a b, C a → lk W a b = true → C b) → C q
def Conn (W : List Nat) (N : Nat) : Prop := ∀ q, q < N → Rch W q
theorem bal_rch (h : WebOk W N) (n : Nat) : ∀ q, (bal W 1 n).testBit q = true → Rch W q := by
  induction n with
  | zero =>
    intro q hq C h0 _
    have : q = 0 := by
      apply Classical.byContradiction
      intro hn
      have e : (1 : Nat).testBit q = false := by
        have := Nat.testBit_two_pow_of_ne (n := 0) (m := q) (by omega)
        simpa using this
      simp only [bal] at hq
      rw [e] at hq
      cases hq
    subst this
    exact h0
  | succ n ih =>
    intro q hq
    rcases (wid_bit h _ _).1 hq with h1 | ⟨a, h1, h2⟩
    · exact ih q h1
    · exact fun C h0 hc => hc a q (ih a h1 C h0 hc) h2
theorem full_lt {s n : Nat} (hs : s < 2 ^ n) : (s = 2 ^ n - 1) ↔ ∀ q, q < n → s.testBit q = true := by
  constructor
  · rintro rfl q hq
    rw [Nat.testBit_two_pow_sub_one]; simpa using hq
  · intro h
    apply Nat.eq_of_testBit_eq
    intro i
    rw [Nat.testBit_two_pow_sub_one]
    by_cases hi : i < n
    · rw [h i hi]; simp [hi]
    · rw [Nat.testBit_lt_two_pow (Nat.lt_of_lt_of_le hs (Nat.pow_le_pow_right (by decide) (by omega)))]
      simp [hi]
/-- What the program finds: all are reached just where ways lead to all. -/
theorem reached_iff (h : WebOk W N) (hN : 1 ≤ N) : bal W 1 (N - 1) = 2 ^ N - 1 ↔ Conn W N := by
  have h1 : (1 : Nat) < 2 ^ N := Nat.one_lt_two_pow (by omega)
  rw [full_lt (bal_lt h h1 _)]
  have hb : (1 : Nat).testBit 0 = true := by simp
  constructor
  · intro ha q hq
    exact bal_rch h _ q (ha q hq)
  · intro hc q hq
    rcases bal_end h (show 0 < N by omega) hb with h2 | h2
    · exact hc q hq (fun a => (bal W 1 (N - 1)).testBit a = true) (bal_le h 1 0 (Nat.zero_le _) hb) (fun a b ha hl => h2 a b ha hl)
    · exact h2 q hq
/-- Where ways lead to all, they lead from each. -/
theorem conn_from (h : WebOk W N) (hc : Conn W N) {t : Nat} (ht : t < N) : ∀ q, q < N → (bal W (2 ^ t) (N - 1)).testBit q = true := by
  have hb : (2 ^ t).testBit t = true := Nat.testBit_two_pow_self
  rcases bal_end h ht hb with h2 | h2
  · have ht' : (bal W (2 ^ t) (N - 1)).testBit t = true := bal_le h _ t (Nat.zero_le _) hb
    have h0 : (bal W (2 ^ t) (N - 1)).testBit 0 = true := by
      apply Classical.byContradiction
      intro hn
      have := hc t ht (fun a => ¬ (bal W (2 ^ t) (N - 1)).testBit a = true) hn (fun a b ha hl hx => ha (h2 b a hx (h.sym a b hl)))
      exact this ht'
    intro q hq
    exact hc q hq (fun a => (bal W (2 ^ t) (N - 1)).testBit a = true) h0 (fun a b ha hl => h2 a b ha hl)
  · exact h2
/-- A way of m + 1 links to t begins with a link into what m links reach. -/
theorem bal_step (h : WebOk W N) {t f : Nat} (hne : f ≠ t) : ∀ m, (bal W (2 ^ t) (m + 1)).testBit f = true → ∃ k p, k ≤ m ∧ (bal W (2 ^ t) k).testBit p = true ∧ lk W f p = true
  | 0, hf => by
    rcases (wid_bit h _ _).1 hf with h1 | ⟨q, h1, h2⟩
    · have : (2 ^ t).testBit f = true := h1
      rw [Nat.testBit_two_pow_of_ne (fun e => hne e.symm)] at this
      cases this
    · exact ⟨0, q, Nat.le_refl _, h1, h.sym _ _ h2⟩
  | m + 1, hf => by
    rcases (wid_bit h _ _).1 hf with h1 | ⟨q, h1, h2⟩
    · obtain ⟨k, p, e1, e2, e3⟩ := bal_step h hne m h1
      exact ⟨k, p, by omega, e2, e3⟩
    · exact ⟨m + 1, q, Nat.le_refl _, h1, h.sym _ _ h2⟩
end
end Go.Proofs.YtlokfalkhgjlbaaDoor
