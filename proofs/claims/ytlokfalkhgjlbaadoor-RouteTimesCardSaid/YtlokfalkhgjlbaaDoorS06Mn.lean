/-
  Copies of lists and operations, in memory of their own: as the reference makes them, and as the program does. A copy of a circuit in memory of its own: as the reference makes it, and as the program does. A region that draws its order and stores twice: what is held until number k has come up (S), what is held throughout (T). A mover: copies of lists; an operation that was made beside it is appended.
-/
import Derived.Test.YtlokfalkhgjlbaaDoorProg
import Derived.Test.YtlokfalkhgjlbaaDoorRows
import Derived.BigQuiet
import Derived.Deep.AppendLies
import Derived.Deep.Cut
import Derived.Deep.CutRange
import Derived.Deep.LoopGhost
import Derived.Deep.QuietTactic
import Derived.Deep.RegionHeld3
import Derived.Ground.Names2Prog
import Derived.Laws.Bits64b
import Derived.Laws.CopyOwn
import Derived.Laws.ResultCell
import Derived.Lib.AppendZeros
import Derived.Lib.BitFns
import Derived.Lib.Hide
import Derived.Lib.ItoaMem
import Derived.Lib.ItoaNum
import Derived.Lib.Strings
import Derived.Lib.TrailingZeros
import Derived.Maps.AppendAt
import Derived.OrdersIn
import Derived.OwnWalk
import Derived.RangeFuncCalls
import Derived.RangeFuncFrom
import Derived.Shelf.Slices.Clone
import Derived.Shelf.Slices.Turned
import Derived.Shelf.Spec.TrailingZeros
import Derived.WalkKit
import Derived.WalkLawsBesides
import Derived.WalkSpells
import Derived.Test.YtlokfalkhgjlbaaDoorS00Ce
import Derived.Test.YtlokfalkhgjlbaaDoorS01Cj
import Derived.Test.YtlokfalkhgjlbaaDoorShelf
import Derived.Test.YtlokfalkhgjlbaaDoorS03Ma
import Derived.Test.YtlokfalkhgjlbaaDoorS04Mg
import Derived.Test.YtlokfalkhgjlbaaDoorS05Mm
namespace Go.Proofs.YtlokfalkhgjlbaaDoor
open Go.RowKit

set_option maxHeartbeats 2000000 in
theorem copyInts_own (ao : Option Addr) (n c : Nat) (l : List Int) (w : World) (h : IntsAt w ao n l) (hb : n * 8 ≤ 140737488355328) :
    Calls Tryd.prog 50 #[.slice ao n c] w fun e w' => (∃ (a' : Option Addr) (c' : Nat), e = .returned (.slice a' n c') ∧ Iow w' w.heap.size a' n c' l) ∧ Ext w w' := by
  obtain ⟨i0, hi, hz0, hz1, hz2⟩ := info_parts i_info
  have Hl := Lib.hid h.1
  have H := Lib.hid h
  clear h
  go_enter Tryd.func50, Tryd.ntmps50
  go_wp2_with fail
  go_loopg [3, 4] n (fun k s3 s4 wr => Ext w wr ∧ ∃ i : Nat, s4 = .int .i64 (i : Int) ∧ i ≤ n ∧ n - i = k ∧ wr.ownsRow w.heap.size 3 1 s3 i (iC (l.take i)))
  case atStart => exact ⟨Ext.refl _, 0, rfl, by omega, by omega, ⟨rfl, Or.inl ⟨rfl, rfl⟩⟩⟩
  case round =>
    obtain ⟨hER, i, rfl, hi', hk, hown⟩ := hrel
    have HER := Lib.hid hER; have Hown := Lib.hid hown
    clear hER hown
    by_cases hin : i = n
    · have h2 : ¬ (i : Int) < (n : Int) := by omega
      have ho := Hown.out
      rw [List.take_of_length_le (by rw [Hl.out]; omega), hin] at ho
      obtain ⟨a', c', e, e1⟩ := io_of_own ho
      subst e
      have HI := Lib.hid e1
      clear ho e1 Hown
      go_wp2_with fail
      go_ret
      exact ⟨⟨a', c', rfl, HI.out⟩, HER.out⟩
    · have h2 : (i : Int) < (n : Int) := by omega
      have h0 : (0 : Int) ≤ (i : Int) := by omega
      obtain ⟨b, o, rfl, hbl, hcell⟩ := (H.out.ext HER.out).at (by omega)
      have hci := hcell i (by omega)
      obtain ⟨y, hy⟩ : ∃ y, l.getD i 0 = y := ⟨_, rfl⟩
      rw [hy] at hci
      have hst : iC (l.take (i + 1)) = iC (l.take i) ++ [.int .i64 y] := by
        rw [← hy, List.take_add_one, List.getElem?_eq_getElem (by rw [Hl.out]; omega), ← iC_snoc, List.getD_eq_getElem?_getD, List.getElem?_eq_getElem (by rw [Hl.out]; omega)]
        rfl
      have Hst := Lib.hid hst
      clear hcell hy hst hbl
      go_wp2_with (at_builtin; refine wpList_append_own _ rfl _ _ 36 rfl w.heap.size 3 i0 (.int .i64 0) 1 8 Tryd.underlying36 hi hz0 hz1 hz2 rfl (by decide) _ i (iC (l.take i)) rfl (Hown.out.alloc _) ⟨wr.heap.size, 0, none⟩ 1 1 [.int .i64 y] rfl rfl (new_i wr y _) (one_i y) (by unfold maxLen; omega) (by omega) (Nat.le_trans HER.out.size (ext_al wr _).size) ?_; intro v' w7 hown' hgrow' _)
      go_roundg (n - (i + 1))
      case measure => omega
      case rel => exact ⟨grown_ext (HER.out.trans (ext_al wr _)) hgrow' (fun k hk => (own_lt Hown.out k hk).1), i + 1, by go_num, by omega, rfl, by rw [Hst.out]; exact hown'⟩

set_option maxHeartbeats 2000000 in
set_option maxRecDepth 100000 in
theorem copyOp_N (o : Gop) (a1 : Option Addr) (n1 c1 : Nat) (a2 : Option Addr) (n2 c2 : Nat) (w : World) (h : OpL w o a1 n1 c1 a2 n2 c2) (hb1 : n1 * 8 ≤ 140737488355328) (hb2 : n2 * 8 ≤ 140737488355328) :
    Calls Tryd.prog 31 #[.agg #[.int .i64 o.kind, .int .i64 o.k, .slice a1 n1 c1, .int .i64 o.q, .int .i64 o.bit, .slice a2 n2 c2]] w fun e w' => (∃ (a1' : Option Addr) (c1' : Nat) (a2' : Option Addr) (c2' : Nat), e = .returned (.agg #[.int .i64 o.kind, .int .i64 o.k, .slice a1' n1 c1', .int .i64 o.q, .int .i64 o.bit, .slice a2' n2 c2']) ∧ OpN w' w.heap.size o a1' n1 c1' a2' n2 c2') ∧ Ext w w' := by
  obtain ⟨kd, k, ctl, q, bt, cnd⟩ := o
  have E0 := (ext_al w (.cells #[.int .i64 kd, .int .i64 k, .slice a1 n1 c1, .int .i64 q, .int .i64 bt, .slice a2 n2 c2] 46)).trans (ext_al _ (.cells #[.int .i64 0, .int .i64 0, .slice none 0 0, .int .i64 0, .int .i64 0, .slice none 0 0] 46))
  have bx := (opbx_new w kd k a1 n1 c1 q bt a2 n2 c2).ext (ext_al _ (.cells #[.int .i64 0, .int .i64 0, .slice none 0 0, .int .i64 0, .int .i64 0, .slice none 0 0] 46))
  have br := opbx_new (w.alloc (.cells #[.int .i64 kd, .int .i64 k, .slice a1 n1 c1, .int .i64 q, .int .i64 bt, .slice a2 n2 c2] 46)) 0 0 none 0 0 0 0 none 0 0
  rw [show (w.alloc (.cells #[.int .i64 kd, .int .i64 k, .slice a1 n1 c1, .int .i64 q, .int .i64 bt, .slice a2 n2 c2] 46)).heap.size = w.heap.size + 1 from by simp] at br
  have HE0 := Lib.hid E0; have HL := Lib.hid (h.ext E0); have H0 := Lib.hid h; have Hbx := Lib.hid bx; have Hbr := Lib.hid br
  have m2 := bx.x2
  simp only
  clear h E0 bx br
  go_enter Tryd.func31, Tryd.ntmps31
  go_wp2_with fail
  generalize (w.alloc (.cells #[.int .i64 kd, .int .i64 k, .slice a1 n1 c1, .int .i64 q, .int .i64 bt, .slice a2 n2 c2] 46)).alloc (.cells #[.int .i64 0, .int .i64 0, .slice none 0 0, .int .i64 0, .int .i64 0, .slice none 0 0] 46) = W0 at *
  clear m2
  refine (copyInts_own a1 n1 c1 ctl W0 HL.out.i1 hb1).mono ?_
  rintro e w1 ⟨⟨a3, c3, rfl, I3⟩, hx1⟩
  have b1 := Hbx.out.ext hx1
  have y2 := b1.x2; have y5 := b1.x5; have f2 := b1.f 2
  have b2 := b1.set2 a3 n1 c3
  have hk1 := only_ints b1.row (by decide) (only1 w1 w.heap.size 2 (.slice a3 n1 c3))
  have I4 := I3.keep hk1
  have Hlt := Lib.hid (fun k hk => (I4.lt k hk).2)
  have HW0 := Lib.hid HE0.out.size
  have HE1 := Lib.hid (p := Ext w _) (Below.setCell (HE0.out.trans hx1) (p := ⟨w.heap.size, 2, none⟩) (Nat.le_refl _) (.slice a3 n1 c3))
  have br2 : OpBx (w1.setCell ⟨w.heap.size, 2, none⟩ (.slice a3 n1 c3)) (w.heap.size + 1) 0 0 none 0 0 0 0 none 0 0 := ⟨((only1 w1 w.heap.size 2 (.slice a3 n1 c3)).block _ (by omega)).trans (Hbr.out.ext hx1).row⟩
  have J2 := H0.out.i2.ext HE1.out
  have z5 := b2.x5
  have Hb2 := Lib.hid b2; have Hbr2 := Lib.hid br2; have HI4 := Lib.hid I4; have HJ2 := Lib.hid J2
  have HW2 := Lib.hid (HE1.out.size)
  clear b1 b2 br2 I3 I4 J2 hk1 HL
  go_wp2_with fail
  generalize w1.setCell ⟨w.heap.size, 2, none⟩ (.slice a3 n1 c3) = W2 at *
  clear y2 y5 f2 z5
  refine (copyInts_own a2 n2 c2 cnd W2 HJ2.out hb2).mono ?_
  rintro e w3 ⟨⟨a5, c5, rfl, I5⟩, hx3⟩
  have b3 := Hb2.out.ext hx3
  have y5 := b3.x5; have f5 := b3.f 5
  have b4 := b3.set5 a5 n2 c5
  have hk3 := only_ints b3.row (by decide) (only1 w3 w.heap.size 5 (.slice a5 n2 c5))
  have I6 := (HI4.out.ext hx3).keep hk3
  have I7 := I5.keep hk3
  have HE3 := Lib.hid (p := Ext w _) (Below.setCell (Ext.trans HE1.out hx3) (p := ⟨w.heap.size, 5, none⟩) (Nat.le_refl _) (.slice a5 n2 c5))
  have br4 : OpBx (w3.setCell ⟨w.heap.size, 5, none⟩ (.slice a5 n2 c5)) (w.heap.size + 1) 0 0 none 0 0 0 0 none 0 0 := ⟨((only1 w3 w.heap.size 5 (.slice a5 n2 c5)).block _ (by omega)).trans (Hbr2.out.ext hx3).row⟩
  have hk4 := only_ints br4.row (by decide) (onl6 (w3.setCell ⟨w.heap.size, 5, none⟩ (.slice a5 n2 c5)) (w.heap.size + 1) (.int .i64 kd) (.int .i64 k) (.slice a3 n1 c3) (.int .i64 q) (.int .i64 bt) (.slice a5 n2 c5))
  have HI8 := Lib.hid (I6.keep hk4); have HI9 := Lib.hid (I7.keep hk4)
  have Hne := Lib.hid (show ∀ k, (Value.slice a3 n1 c3).ownBlock = some k → (Value.slice a5 n2 c5).ownBlock ≠ some k from fun k h1 h2 => by
    have h3 := Hlt.out k h1
    have h4 := (I7.lt k h2).1
    omega)
  have p0 := b4.x0; have p1 := b4.x1; have p2 := b4.x2; have p3 := b4.x3; have p4 := b4.x4; have p5 := b4.x5
  have r0 := br4.x0; have r1 := br4.x1; have r2 := br4.x2; have r3 := br4.x3; have r4 := br4.x4; have r5 := br4.x5
  have g0 := br4.f 0; have g1 := br4.f 1; have g2 := br4.f 2; have g3 := br4.f 3; have g4 := br4.f 4; have g5 := br4.f 5
  clear b3 b4 br4 I5 I6 I7 hk3 hk4 hx3 hx1
  go_wp2_with fail
  exact bodyPost_ret (v := .agg #[.int .i64 kd, .int .i64 k, .slice a3 n1 c3, .int .i64 q, .int .i64 bt, .slice a5 n2 c5]) (by simp [results, Tryd.results31, go_sem, r0, r1, r2, r3, r4, r5]) rfl ⟨⟨a3, c3, a5, c5, rfl, ⟨HI8.out.down (by have := HW0.out; omega), HI9.out.down (by have := HW2.out; omega), Hne.out⟩⟩, put6 HE3.out (by omega) _ _ _ _ _ _⟩

end Go.Proofs.YtlokfalkhgjlbaaDoor
namespace Go.Proofs.YtlokfalkhgjlbaaDoor
open Go.RowKit

set_option maxHeartbeats 8000000 in
set_option maxRecDepth 100000 in
theorem CopyCircuit_N (c : Gci) (ao : Option Addr) (n cp : Nat) (w : World) (h : OpsAt w ao n c.ops) (hbn : n * 80 ≤ 140737488355328) (hbl : ∀ g ∈ c.ops, g.ctl.length * 8 ≤ 140737488355328 ∧ g.cnd.length * 8 ≤ 140737488355328) :
    Calls Tryd.prog 12 #[.agg #[.int .i64 c.qubits, .int .i64 c.bits, .slice ao n cp]] w fun e w' => (∃ (a' : Option Addr) (c' : Nat), e = .returned (.agg #[.int .i64 c.qubits, .int .i64 c.bits, .slice a' n c']) ∧ OpsN w' w.heap.size (.slice a' n c') c.ops) ∧ Ext w w' := by
  obtain ⟨qb, bi, ops⟩ := c
  obtain ⟨i0, hi, hz0, hz1, hz2⟩ := info_parts op_info
  obtain ⟨H, hH⟩ : ∃ H, w.heap.size = H := ⟨_, rfl⟩
  have HhH := Lib.hid hH
  have E0 := ((ext_al w (.cells #[.int .i64 qb, .int .i64 bi, .slice ao n cp] 34)).trans (ext_al _ (.cells #[.int .i64 0, .int .i64 0, .slice none 0 0] 34))).trans (ext_al _ (.cells #[.int .i64 qb, .int .i64 bi, .slice none 0 0] 34))
  have bC : CiB (((w.alloc (.cells #[.int .i64 qb, .int .i64 bi, .slice ao n cp] 34)).alloc (.cells #[.int .i64 0, .int .i64 0, .slice none 0 0] 34)).alloc (.cells #[.int .i64 qb, .int .i64 bi, .slice none 0 0] 34)) w.heap.size qb bi ao n cp := (CiB.ext ⟨heap_alloc_new w _⟩ (ext_al _ _)).ext (ext_al _ _)
  have bR : CiB (((w.alloc (.cells #[.int .i64 qb, .int .i64 bi, .slice ao n cp] 34)).alloc (.cells #[.int .i64 0, .int .i64 0, .slice none 0 0] 34)).alloc (.cells #[.int .i64 qb, .int .i64 bi, .slice none 0 0] 34)) (w.heap.size + 1) 0 0 none 0 0 := CiB.ext ⟨by
    have := heap_alloc_new (w.alloc (.cells #[.int .i64 qb, .int .i64 bi, .slice ao n cp] 34)) (.cells #[.int .i64 0, .int .i64 0, .slice none 0 0] 34)
    simpa using this⟩ (ext_al _ _)
  have bO : CiB (((w.alloc (.cells #[.int .i64 qb, .int .i64 bi, .slice ao n cp] 34)).alloc (.cells #[.int .i64 0, .int .i64 0, .slice none 0 0] 34)).alloc (.cells #[.int .i64 qb, .int .i64 bi, .slice none 0 0] 34)) (w.heap.size + 2) qb bi none 0 0 := ⟨by
    have := heap_alloc_new ((w.alloc (.cells #[.int .i64 qb, .int .i64 bi, .slice ao n cp] 34)).alloc (.cells #[.int .i64 0, .int .i64 0, .slice none 0 0] 34)) (.cells #[.int .i64 qb, .int .i64 bi, .slice none 0 0] 34)
    simpa using this⟩
  have Hl := Lib.hid h.1
  have HE0 := Lib.hid E0; have HOp := Lib.hid (h.ext E0); have Hops0 := Lib.hid h; have HC := Lib.hid bC; have HR := Lib.hid bR; have HO := Lib.hid bO; have Hbl := Lib.hid hbl
  have HoldA : Hid (n = 0 ∨ ∃ b o, ao = some ⟨b, o, none⟩ ∧ b < w.heap.size) := by
    rcases h.2 with h0 | ⟨b, o, e, hb, _⟩
    · exact Or.inl h0
    · exact Or.inr ⟨b, o, e, hb⟩
  simp only at Hl ⊢
  clear h E0 bC bR bO hbl
  go_enter Tryd.func12, Tryd.ntmps12
  go_wp2_with fail
  generalize ((w.alloc (.cells #[.int .i64 qb, .int .i64 bi, .slice ao n cp] 34)).alloc (.cells #[.int .i64 0, .int .i64 0, .slice none 0 0] 34)).alloc (.cells #[.int .i64 qb, .int .i64 bi, .slice none 0 0] 34) = W0 at *
  obtain ⟨base, hbase⟩ : ∃ base, W0.heap.size = base := ⟨_, rfl⟩
  have HoutL : Hid (w.heap.size + 2 < W0.heap.size) := HO.out.lt
  have hH3 : H + 2 < base := by have := HoutL.out; omega
  rw [hH] at HoutL HC HR HO
  go_loopg [4] n (fun kk s4 wr => ∃ (i : Nat) (av : Option Addr) (cv : Nat), s4 = .int .i64 (i : Int) ∧ i ≤ n ∧ n - i = kk ∧ CiB wr H qb bi ao n cp ∧ CiB wr (H + 1) 0 0 none 0 0 ∧ CiB wr (H + 2) qb bi av i cv ∧ OpsAt wr ao n ops ∧ OpsN wr base (.slice av i cv) (ops.take i) ∧ Ext w wr ∧ base ≤ wr.heap.size)
  case atStart => exact ⟨0, none, 0, rfl, by omega, by omega, HC.out, HR.out, HO.out, HOp.out, OpsN.nil _ _, HE0.out, by omega⟩
  case round =>
    clear HC HR HO HOp HE0
    obtain ⟨i, av, cv, rfl, hin', hk, bC, bR, bO, hops, hown, hER, hbs⟩ := hrel
    have HC := Lib.hid bC; have HR := Lib.hid bR; have Hout := Lib.hid bO; have HOp := Lib.hid hops; have Hown := Lib.hid hown; have HER := Lib.hid hER
    have v0 := bO.x2; have v2 := bC.x2
    by_cases hin : i = n
    · have h2 : ¬ (i : Int) < (n : Int) := by omega
      have ho := hown
      rw [List.take_of_length_le (by rw [Hl.out]; omega)] at ho
      subst hin
      have x0 := bO.x0; have x1 := bO.x1; have r0 := bR.x0; have r1 := bR.x1; have r2 := bR.x2; have g0 := bR.f 0; have g1 := bR.f 1; have g2 := bR.f 2
      have hO3 : Only (H + 1) wr (((wr.setCell ⟨H + 1, 0, none⟩ (.int .i64 qb)).setCell ⟨H + 1, 1, none⟩ (.int .i64 bi)).setCell ⟨H + 1, 2, none⟩ (.slice av i cv)) := (((Only.refl _ _).setCell _ _).setCell _ _).setCell _ _
      have Hat := Lib.hid ((ho.only bR.row (by decide) hO3 (by omega)).down (show H ≤ base by omega))
      clear bC bR bO hops hown hER ho hO3
      go_wp2_with fail
      exact bodyPost_ret (v := .agg #[.int .i64 qb, .int .i64 bi, .slice av i cv]) (by simp [results, Tryd.results12, go_sem, r0, r1, r2]) rfl ⟨⟨av, cv, rfl, Hat.out⟩, Below.setCell (Below.setCell (Below.setCell HER.out (p := ⟨H + 1, 0, none⟩) (show w.heap.size ≤ H + 1 by have := HhH.out; omega) _) (p := ⟨H + 1, 1, none⟩) (show w.heap.size ≤ H + 1 by have := HhH.out; omega) _) (p := ⟨H + 1, 2, none⟩) (show w.heap.size ≤ H + 1 by have := HhH.out; omega) _⟩
    · have h2 : (i : Int) < (n : Int) := by omega
      have h0 : (0 : Int) ≤ (i : Int) := by omega
      rcases HoldA.out with h | ⟨b, o, rfl, hbw⟩
      · omega
      have HbB : Hid (b < base) := by show b < base; omega
      obtain ⟨gg, hg⟩ : ∃ g, ops[i]? = some g := ⟨_, List.getElem?_eq_getElem (by rw [Hl.out]; omega)⟩
      obtain ⟨a1, n1, c1, a2, n2, c2, e0, e1, e2, e3, e4, e5, hL⟩ := hops.at i gg hg
      have hbl := Hbl.out gg (List.mem_of_getElem? hg)
      rw [hL.i1.1, hL.i2.1] at hbl
      have hst : ops.take (i + 1) = ops.take i ++ [gg] := by rw [List.take_add_one, hg]; rfl
      have Hst := Lib.hid hst
      have HCp := Lib.hid (fun wx (hx : Ext wr wx) => copyOp_N gg a1 n1 c1 a2 n2 c2 wx (hL.ext hx) hbl.1 hbl.2)
      obtain ⟨kd, kk', ctl, qq, bb, cnd⟩ := gg
      simp only at e0 e1 e2 e3 e4 e5 HCp
      clear bC bR bO hops hown hER hL hst hbl hg
      go_wp2_with fail
      have hE0d : Ext wr wr.drew := Below.drew (Ext.refl _)
      refine wp_region_K 11 (fun w' => w'.cell? ⟨H + 2, 2, none⟩ = some (.slice av i cv) ∧ w'.cell? ⟨H, 2, none⟩ = some (.slice (some ⟨b, o, none⟩) n cp) ∧ w'.cell? ⟨b, o + i * 6, none⟩ = some (.int .i64 kd) ∧ w'.cell? ⟨b, o + i * 6 + 1, none⟩ = some (.int .i64 kk') ∧ w'.cell? ⟨b, o + i * 6 + 2, none⟩ = some (.slice a1 n1 c1) ∧ w'.cell? ⟨b, o + i * 6 + 3, none⟩ = some (.int .i64 qq) ∧ w'.cell? ⟨b, o + i * 6 + 4, none⟩ = some (.int .i64 bb) ∧ w'.cell? ⟨b, o + i * 6 + 5, none⟩ = some (.slice a2 n2 c2)) (by kernel_rfl) ?_
      show anyK _ _ _ _ _ _ 12 #[false, false, false, false, false, false, false, false, false, false, false, false] _ _
      have hHeld : wr.drew.cell? ⟨H + 2, 2, none⟩ = some (.slice av i cv) ∧ wr.drew.cell? ⟨H, 2, none⟩ = some (.slice (some ⟨b, o, none⟩) n cp) ∧ wr.drew.cell? ⟨b, o + i * 6, none⟩ = some (.int .i64 kd) ∧ wr.drew.cell? ⟨b, o + i * 6 + 1, none⟩ = some (.int .i64 kk') ∧ wr.drew.cell? ⟨b, o + i * 6 + 2, none⟩ = some (.slice a1 n1 c1) ∧ wr.drew.cell? ⟨b, o + i * 6 + 3, none⟩ = some (.int .i64 qq) ∧ wr.drew.cell? ⟨b, o + i * 6 + 4, none⟩ = some (.int .i64 bb) ∧ wr.drew.cell? ⟨b, o + i * 6 + 5, none⟩ = some (.slice a2 n2 c2) := ⟨cell_ext v0 hE0d, cell_ext v2 hE0d, cell_ext e0 hE0d, cell_ext e1 hE0d, cell_ext e2 hE0d, cell_ext e3 hE0d, cell_ext e4 hE0d, cell_ext e5 hE0d⟩
      refine anyK_take (i := 0) (v := ?_) rfl (by kernel_rfl) (by kernel_rfl) (by kernel_rfl) (N := 8) (by kernel_rfl) (by kernel_rfl) (by kernel_rfl) (fun _ _ _ h => h) (Or.inl ⟨by rfl, ?_⟩) hHeld ?_
      rotate_left 1
      · intro w hSw
        go_simp
        try with_reducible rfl
      show anyK _ _ _ _ _ _ _ _ (Act.put _ (some 17) _) _
      simp only [Act.put, List.setIfInBounds_toArray, List.set_cons_zero, List.set_cons_succ]
      refine anyK_take (i := 1) (v := ?_) rfl (by kernel_rfl) (by kernel_rfl) (by kernel_rfl) (N := 8) (by kernel_rfl) (by kernel_rfl) (by kernel_rfl) (fun _ _ _ h => h) (Or.inl ⟨by rfl, ?_⟩) hHeld ?_
      rotate_left 1
      · intro w hSw
        go_simp
        try with_reducible rfl
      show anyK _ _ _ _ _ _ _ _ (Act.put _ (some 18) _) _
      simp only [Act.put, List.setIfInBounds_toArray, List.set_cons_zero, List.set_cons_succ]
      refine anyK_take (i := 2) (v := ?_) rfl (by kernel_rfl) (by kernel_rfl) (by kernel_rfl) (N := 8) (by kernel_rfl) (by kernel_rfl) (by kernel_rfl) (fun _ _ _ h => h) (Or.inl ⟨by rfl, ?_⟩) hHeld ?_
      rotate_left 1
      · intro w hSw
        go_simp
        try with_reducible rfl
      show anyK _ _ _ _ _ _ _ _ (Act.put _ (some 19) _) _
      simp only [Act.put, List.setIfInBounds_toArray, List.set_cons_zero, List.set_cons_succ]
      refine anyK_take (i := 3) (v := ?_) rfl (by kernel_rfl) (by kernel_rfl) (by kernel_rfl) (N := 8) (by kernel_rfl) (by kernel_rfl) (by kernel_rfl) (fun _ _ _ h => h) (Or.inl ⟨by rfl, ?_⟩) hHeld ?_
      rotate_left 1
      · intro w hSw
        go_simp
        try with_reducible rfl
      show anyK _ _ _ _ _ _ _ _ (Act.put _ (some 20) _) _
      simp only [Act.put, List.setIfInBounds_toArray, List.set_cons_zero, List.set_cons_succ]
      refine anyK_take (i := 4) (v := ?_) rfl (by kernel_rfl) (by kernel_rfl) (by kernel_rfl) (N := 8) (by kernel_rfl) (by kernel_rfl) (by kernel_rfl) (fun _ _ _ h => h) (Or.inl ⟨by rfl, ?_⟩) hHeld ?_
      rotate_left 1
      · intro w hSw
        go_simp
        try with_reducible rfl
      show anyK _ _ _ _ _ _ _ _ (Act.put _ (some 21) _) _
      simp only [Act.put, List.setIfInBounds_toArray, List.set_cons_zero, List.set_cons_succ]
      refine anyK_take (i := 5) (v := ?_) rfl (by kernel_rfl) (by kernel_rfl) (by kernel_rfl) (N := 8) (by kernel_rfl) (by kernel_rfl) (by kernel_rfl) (fun _ _ _ h => h) (Or.inl ⟨by rfl, ?_⟩) hHeld ?_
      rotate_left 1
      · intro w hSw
        go_simp
        try with_reducible rfl
      show anyK _ _ _ _ _ _ _ _ (Act.put _ (some 22) _) _
      simp only [Act.put, List.setIfInBounds_toArray, List.set_cons_zero, List.set_cons_succ]
      refine anyK_take (i := 6) (v := ?_) rfl (by kernel_rfl) (by kernel_rfl) (by kernel_rfl) (N := 8) (by kernel_rfl) (by kernel_rfl) (by kernel_rfl) (fun _ _ _ h => h) (Or.inl ⟨by rfl, ?_⟩) hHeld ?_
      rotate_left 1
      · intro w hSw
        go_simp
        try with_reducible rfl
      show anyK _ _ _ _ _ _ _ _ (Act.put _ (some 23) _) _
      simp only [Act.put, List.setIfInBounds_toArray, List.set_cons_zero, List.set_cons_succ]
      clear hHeld
      refine anyK_one (i := 7) (by kernel_rfl) rfl (fun Kk hKk => ?_)
      go_simp
      (go_at_call 31; refine (HCp.out _ hE0d).mono ?_; rintro e w4 ⟨⟨a3, c3, a5, c5, rfl, O4⟩, hx4⟩; have he4 : Ext wr w4 := hE0d.trans hx4)
      go_wp2_with fail
      refine hKk.out _ _ (fun _ => ⟨cell_ext v0 he4, cell_ext v2 he4, cell_ext e0 he4, cell_ext e1 he4, cell_ext e2 he4, cell_ext e3 he4, cell_ext e4 he4, cell_ext e5 he4⟩) ?_
      clear hKk Kk
      simp only [List.setIfInBounds_toArray, List.set_cons_zero, List.set_cons_succ]
      refine anyK_one (i := 8) (by kernel_rfl) rfl (fun Kk hKk => ?_)
      go_wp2_with fail
      refine hKk.out _ _ (fun _ => ⟨cell_ext v0 (he4.trans (ext_al _ _)), cell_ext v2 (he4.trans (ext_al _ _)), cell_ext e0 (he4.trans (ext_al _ _)), cell_ext e1 (he4.trans (ext_al _ _)), cell_ext e2 (he4.trans (ext_al _ _)), cell_ext e3 (he4.trans (ext_al _ _)), cell_ext e4 (he4.trans (ext_al _ _)), cell_ext e5 (he4.trans (ext_al _ _))⟩) ?_
      clear hKk Kk
      simp only [List.setIfInBounds_toArray, List.set_cons_zero, List.set_cons_succ]
      obtain ⟨xs, hx0⟩ := Hown.out
      have hxx := hx0.ext he4
      have ho := hxx.own
      have ho5 := ho.alloc (.cells #[.int .i64 kd, .int .i64 kk', .slice a3 n1 c3, .int .i64 qq, .int .i64 bb, .slice a5 n2 c5] 46)
      obtain ⟨g, cap, w7, hrun, hown', hgrow', hcase, hglt⟩ := run_append_lies (P := Tryd.prog) (w4.alloc (.cells #[.int .i64 kd, .int .i64 kk', .slice a3 n1 c3, .int .i64 qq, .int .i64 bb, .slice a5 n2 c5] 46)) 32 32 base 46 i0 (.agg #[.int .i64 0, .int .i64 0, .slice none 0 0, .int .i64 0, .int .i64 0, .slice none 0 0]) 6 80 Tryd.underlying32 hi hz0 hz1 hz2 rfl (by decide) (.slice av i cv) (ops.take i).length xs ho5 ⟨w4.heap.size, 0, none⟩ 1 1 [.int .i64 kd, .int .i64 kk', .slice a3 n1 c3, .int .i64 qq, .int .i64 bb, .slice a5 n2 c5] rfl (new_op w4 _ _ _ _ _ _ _ _ _ _ _) (one_op _ _ _ _ _ _ _ _ _ _) (by omega) (by rw [List.length_take]; unfold maxLen; omega) (by rw [List.length_take]; omega) (by have := he4.size; simp; omega) _ rfl
      have hli : (ops.take i).length = i := by rw [List.length_take, Hl.out]; omega
      rw [hli] at hrun
      refine anyK_one (i := 9) (by kernel_rfl) rfl (fun Kk hKk => ?_)
      refine stepK_append rfl _ _ 32 rfl (.slice av i cv) (.slice (some ⟨w4.heap.size, 0, none⟩) 1 1) _ rfl rfl hrun ?_
      have hkind := PtKind ho5
      have hk7 : ∀ (b' : Nat) (cur : Array Value) (fr : Nat × Nat), (w4.alloc (.cells #[.int .i64 kd, .int .i64 kk', .slice a3 n1 c3, .int .i64 qq, .int .i64 bb, .slice a5 n2 c5] 46)).heap[b']? = some (.cells cur 3 fr) → w7.heap[b']? = (w4.alloc (.cells #[.int .i64 kd, .int .i64 kk', .slice a3 n1 c3, .int .i64 qq, .int .i64 bb, .slice a5 n2 c5] 46)).heap[b']? := fun b' cur fr hb' => by
        refine hgrow'.block b' (Array.getElem?_eq_some_iff.1 hb').1 (fun e => ?_)
        obtain ⟨_, cs, fr', e2⟩ := hkind b' e.symm
        rw [e2] at hb'
        cases hb'
      have O7 := (O4.ext (ext_al _ (.cells #[.int .i64 kd, .int .i64 kk', .slice a3 n1 c3, .int .i64 qq, .int .i64 bb, .slice a5 n2 c5] 46))).keep hk7
      have own7 := OpsX.snoc (g := ⟨kd, kk', ctl, qq, bb, cnd⟩) (hxx.ext (ext_al _ _)) hown' hk7 hx0.old (show base ≤ wr.heap.size from hbs) O7
      have bOut7 : CiB w7 (H + 2) qb bi av i cv := ⟨(hgrow'.block _ ((Hout.out.ext he4).ext (ext_al _ _)).lt (fun e => by have := (hkind _ e.symm).1; omega)).trans ((Hout.out.ext he4).ext (ext_al _ _)).row⟩
      have x2' := bOut7.x2; have fz2 := bOut7.f 2
      have hHeld : w7.cell? ⟨H + 2, 2, none⟩ = some (.slice av i cv) ∧ w7.cell? ⟨H, 2, none⟩ = some (.slice (some ⟨b, o, none⟩) n cp) ∧ w7.cell? ⟨b, o + i * 6, none⟩ = some (.int .i64 kd) ∧ w7.cell? ⟨b, o + i * 6 + 1, none⟩ = some (.int .i64 kk') ∧ w7.cell? ⟨b, o + i * 6 + 2, none⟩ = some (.slice a1 n1 c1) ∧ w7.cell? ⟨b, o + i * 6 + 3, none⟩ = some (.int .i64 qq) ∧ w7.cell? ⟨b, o + i * 6 + 4, none⟩ = some (.int .i64 bb) ∧ w7.cell? ⟨b, o + i * 6 + 5, none⟩ = some (.slice a2 n2 c2) := ⟨x2', (CiB_grown hgrow' hkind (HC.out.ext (he4.trans (ext_al _ _))) (by omega)).x2, cell_grown hgrow' hkind e0 ((he4.trans (ext_al _ _))) HbB.out, cell_grown hgrow' hkind e1 ((he4.trans (ext_al _ _))) HbB.out, cell_grown hgrow' hkind e2 ((he4.trans (ext_al _ _))) HbB.out, cell_grown hgrow' hkind e3 ((he4.trans (ext_al _ _))) HbB.out, cell_grown hgrow' hkind e4 ((he4.trans (ext_al _ _))) HbB.out, cell_grown hgrow' hkind e5 ((he4.trans (ext_al _ _))) HbB.out⟩
      refine hKk.out _ _ (fun _ => hHeld) ?_
      clear hKk Kk
      show anyK _ _ _ _ _ _ _ _ (Act.put _ (some 26) _) _
      simp only [Act.put, List.setIfInBounds_toArray, List.set_cons_zero, List.set_cons_succ]
      refine anyK_take (i := 10) (v := ?_) rfl (by kernel_rfl) (by kernel_rfl) (by kernel_rfl) (N := 8) (by kernel_rfl) (by kernel_rfl) (by kernel_rfl) (fun _ _ _ h => h) (Or.inl ⟨by rfl, ?_⟩) hHeld ?_
      rotate_left 1
      · intro w hSw
        go_simp
        try with_reducible rfl
      show anyK _ _ _ _ _ _ _ _ (Act.put _ (some 27) _) _
      simp only [Act.put, List.setIfInBounds_toArray, List.set_cons_zero, List.set_cons_succ]
      clear hHeld
      refine anyK_one (i := 11) (by kernel_rfl) rfl (fun Kk hKk => ?_)
      refine stepK_store rfl rfl _ _ rfl (H + 2) 2 (some ⟨g, 0, none⟩) (i + 1) cap (.slice av i cv) rfl rfl x2' fz2 ?_
      refine hKk.out _ _ (fun h => Bool.noConfusion (show true = false from h)) ?_
      clear hKk Kk
      simp only [List.setIfInBounds_toArray, List.set_cons_zero, List.set_cons_succ]
      refine anyK_done (by kernel_rfl) ?_ _
      have bOut8 := bOut7.set2 (some ⟨g, 0, none⟩) (i + 1) cap
      have hOo := only1 w7 (H + 2) 2 (.slice (some ⟨g, 0, none⟩) (i + 1) cap)
      have own8 : OpsN _ base _ _ := ⟨_, own7.only bOut7.row (by decide) hOo (by omega)⟩
      rw [hli] at own8
      clear hli
      have bC8 : CiB (w7.setCell ⟨H + 2, 2, none⟩ (.slice (some ⟨g, 0, none⟩) (i + 1) cap)) H qb bi (some ⟨b, o, none⟩) n cp := ⟨(hOo.block _ (by omega)).trans (CiB_grown hgrow' hkind (HC.out.ext (he4.trans (ext_al _ _))) (by omega)).row⟩
      have bR8 : CiB (w7.setCell ⟨H + 2, 2, none⟩ (.slice (some ⟨g, 0, none⟩) (i + 1) cap)) (H + 1) 0 0 none 0 0 := ⟨(hOo.block _ (by omega)).trans (CiB_grown hgrow' hkind (HR.out.ext (he4.trans (ext_al _ _))) (by omega)).row⟩
      have hE8 : Ext w (w7.setCell ⟨H + 2, 2, none⟩ (.slice (some ⟨g, 0, none⟩) (i + 1) cap)) := Below.setCell (grown_ext (HER.out.trans (he4.trans (ext_al _ _))) hgrow' (fun k hk => by have := (hkind k hk).1; have := HhH.out; omega)) (p := ⟨H + 2, 2, none⟩) (show w.heap.size ≤ H + 2 by have := HhH.out; omega) _
      have hops8 := Hops0.out.ext hE8
      have HbC8 := Lib.hid bC8; have HbR8 := Lib.hid bR8; have HbO8 := Lib.hid bOut8; have Hown8 := Lib.hid own8; have HE8 := Lib.hid hE8; have Hops8 := Lib.hid hops8
      have Hs8 : Hid (base ≤ w7.heap.size) := Nat.le_trans (Nat.le_trans hbs (he4.trans (ext_al _ _)).size) hgrow'.size
      clear bC8 bR8 bOut8 own8 hE8 hops8 own7 bOut7 O7 hk7 hkind hgrow' hown' hrun ho5 ho hxx hx0 O4 hx4 he4 hE0d v0 v2 e0 e1 e2 e3 e4 e5 x2' fz2
      go_wp2_with fail
      go_roundg (n - (i + 1))
      case measure => omega
      case rel => exact ⟨i + 1, some ⟨g, 0, none⟩, cap, by go_num, by omega, rfl, HbC8.out, HbR8.out, HbO8.out, Hops8.out, by rw [Hst.out]; exact Hown8.out, HE8.out, by simpa using Hs8.out⟩

end Go.Proofs.YtlokfalkhgjlbaaDoor
namespace Go.Proofs.YtlokfalkhgjlbaaDoor

section
variable {P : Program} {ops : Array Oper} {Q : Exit → Act → World → Prop} {md : Region.Mode} {S T : World → Prop} {k : Nat}

def anyT (P : Program) (md : Region.Mode) (ops : Array Oper) (Q : Exit → Act → World → Prop) (k : Nat) (S T : World → Prop) : Nat → Array Bool → Act → World → Prop
  | 0, l, a, w => Region.ready md ops l = [] ∧ Q .normal a w
  | n + 1, l, a, w => (Region.ready md ops l = [] → Q .normal a w) ∧
      ∀ i, i ∈ Region.ready md ops l → wpOp P ops Q i (fun a' w' => T w' ∧ ((l.setIfInBounds i true).getD k true = false → S w') ∧ anyT P md ops Q k S T n (l.setIfInBounds i true) a' w') a w

theorem anyT_plain (n : Nat) : ∀ (l : Array Bool) (a : Act) (w : World), anyT P md ops Q k S T n l a w → wpAny P md ops Q n l a w := by
  induction n with
  | zero => exact fun _ _ _ h => h
  | succ n ih => exact fun l a w h => ⟨h.1, fun i hi => wpOp_mono (fun a' w' h' => ih _ a' w' h'.2.2) (h.2 i hi)⟩

theorem anyT_first {i : Nat} {o : Oper} {v : Value} (hi : ops[i]? = some o) (hsel : ∀ (j : Nat) (o : Oper) cs b, ops[j]? = some o → o.op ≠ .select cs b)
    (hQ : ∀ c a w, Q (.panic c) (a.put o.dst v) w → Q (.panic c) a w) {N : Nat} (hw : waits md ops N k i = true) (n : Nat) :
    ∀ (l : Array Bool) (a : Act) (w : World), closedL md ops l →
      (∀ j oj, ops[j]? = some oj → j ≠ i → l.getD j true = false → (∀ e ∈ oj.after, Region.binds md e = true → e.on ≠ i) → o.apart ops oj = true) →
      i ∈ Region.ready md ops l → YieldsIf P ops S o v a → S w → T w → l.getD k true = false →
      anyT P md ops Q k S T n (l.setIfInBounds i true) (a.put o.dst v) w → anyT P md ops Q k S T (n + 1) l a w := by
  induction n with
  | zero =>
    intro l a w _ _ hr hy hS hT _ H
    refine ⟨fun h => (by rw [h] at hr; cases hr), fun j hj => ?_⟩
    by_cases hji : j = i
    · subst hji
      exact hy.wpOp hi hS ⟨hT, fun _ => hS, H⟩
    · have h := ready_mono hj hji
      rw [H.1] at h
      cases h
  | succ n ih =>
    intro l a w hc hfree hr hy hS hT hk H
    refine ⟨fun h => (by rw [h] at hr; cases hr), fun j hj => ?_⟩
    by_cases hji : j = i
    · subst hji
      exact hy.wpOp hi hS ⟨hT, fun _ => hS, H⟩
    have hjk : j ≠ k := fun e => waits_unready hc hw hr (e ▸ hj)
    obtain ⟨hjun, oj, hoj, hall⟩ := mem_ready.1 hj
    have hnot : ∀ e ∈ oj.after, Region.binds md e = true → e.on ≠ i := by
      intro e he hb heq
      have h1 := hall e he hb
      have h0 := (mem_ready.1 hr).1
      rw [heq] at h1
      rcases Nat.lt_or_ge i l.size with h' | h'
      · simp [h'] at h0 h1
        rw [h0] at h1
        cases h1
      · simp [Array.getElem?_eq_none h'] at h1
    have h2 := wpOp_putIf hoj (hfree j oj hoj hji hjun hnot) (fun cs b => hsel i o cs b hi) (fun cs b => hsel j oj cs b hoj) hQ hy (H.2 j (ready_mono hj hji))
    have hk1 : (l.setIfInBounds j true).getD k true = false := by rw [Go.getD_set_ne true hjk]; exact hk
    have hik : i ≠ k := fun e => waits_unready hc hw hr (e ▸ hr)
    have hk2 : ((l.setIfInBounds i true).setIfInBounds j true).getD k true = false := by rw [Go.getD_set_ne true hjk, Go.getD_set_ne true hik]; exact hk
    have hfree' : ∀ m om, ops[m]? = some om → m ≠ i → (l.setIfInBounds j true).getD m true = false → (∀ e ∈ om.after, Region.binds md e = true → e.on ≠ i) → o.apart ops om = true := by
      intro m om hm hmi hun hno
      refine hfree m om hm hmi ?_ hno
      by_cases e : j = m
      · subst e; exact hjun
      · rw [Go.getD_set_ne true e] at hun; exact hun
    refine wpOp_mono (fun a' w' h3 => ?_) h2
    obtain ⟨y3, t3, s3, r3⟩ := h3
    refine ⟨t3, fun _ => s3 hk2, ih _ a' w' (closedL_set hc hj) hfree' (ready_mono hr (Ne.symm hji)) y3 (s3 hk2) t3 hk1 ?_⟩
    rw [Array.setIfInBounds_comm _ _ hji]
    exact r3
/-- What is held throughout needs no one to wait. -/
theorem anyT_firstT {i : Nat} {o : Oper} {v : Value} (hi : ops[i]? = some o) (hik : i ≠ k) (hsel : ∀ (j : Nat) (o : Oper) cs b, ops[j]? = some o → o.op ≠ .select cs b)
    (hQ : ∀ c a w, Q (.panic c) (a.put o.dst v) w → Q (.panic c) a w) (n : Nat) :
    ∀ (l : Array Bool) (a : Act) (w : World),
      (∀ j oj, ops[j]? = some oj → j ≠ i → l.getD j true = false → (∀ e ∈ oj.after, Region.binds md e = true → e.on ≠ i) → o.apart ops oj = true) →
      i ∈ Region.ready md ops l → YieldsIf P ops T o v a → T w → (l.getD k true = false → S w) →
      anyT P md ops Q k S T n (l.setIfInBounds i true) (a.put o.dst v) w → anyT P md ops Q k S T (n + 1) l a w := by
  induction n with
  | zero =>
    intro l a w _ hr hy hT hS H
    refine ⟨fun h => (by rw [h] at hr; cases hr), fun j hj => ?_⟩
    by_cases hji : j = i
    · subst hji
      exact hy.wpOp hi hT ⟨hT, fun e => hS (by rw [Go.getD_set_ne true hik] at e; exact e), H⟩
    · have h := ready_mono hj hji
      rw [H.1] at h
      cases h
  | succ n ih =>
    intro l a w hfree hr hy hT hS H
    refine ⟨fun h => (by rw [h] at hr; cases hr), fun j hj => ?_⟩
    by_cases hji : j = i
    · subst hji
      exact hy.wpOp hi hT ⟨hT, fun e => hS (by rw [Go.getD_set_ne true hik] at e; exact e), H⟩
    obtain ⟨hjun, oj, hoj, hall⟩ := mem_ready.1 hj
    have hnot : ∀ e ∈ oj.after, Region.binds md e = true → e.on ≠ i := by
      intro e he hb heq
      have h1 := hall e he hb
      have h0 := (mem_ready.1 hr).1
      rw [heq] at h1
      rcases Nat.lt_or_ge i l.size with h' | h'
      · simp [h'] at h0 h1
        rw [h0] at h1
        cases h1
      · simp [Array.getElem?_eq_none h'] at h1
    have h2 := wpOp_putIf hoj (hfree j oj hoj hji hjun hnot) (fun cs b => hsel i o cs b hi) (fun cs b => hsel j oj cs b hoj) hQ hy (H.2 j (ready_mono hj hji))
    have hfree' : ∀ m om, ops[m]? = some om → m ≠ i → (l.setIfInBounds j true).getD m true = false → (∀ e ∈ om.after, Region.binds md e = true → e.on ≠ i) → o.apart ops om = true := by
      intro m om hm hmi hun hno
      refine hfree m om hm hmi ?_ hno
      by_cases e : j = m
      · subst e; exact hjun
      · rw [Go.getD_set_ne true e] at hun; exact hun
    refine wpOp_mono (fun a' w' h3 => ?_) h2
    obtain ⟨y3, t3, s3, r3⟩ := h3
    have hS3 : (l.setIfInBounds j true).getD k true = false → S w' := fun e => s3 (by
      rw [Array.setIfInBounds_comm _ _ (Ne.symm hji), Go.getD_set_ne true hik]
      exact e)
    refine ⟨t3, hS3, ih _ a' w' hfree' (ready_mono hr (Ne.symm hji)) y3 t3 hS3 ?_⟩
    rw [Array.setIfInBounds_comm _ _ hji]
    exact r3
theorem anyT_take {i : Nat} {o : Oper} {v : Value} {n : Nat} {l : Array Bool} {a : Act} {w : World} (hi : ops[i]? = some o)
    (hs : Region.noSelect ops = true) (hf : Region.free md ops l i = true) (hr : (Region.ready md ops l).contains i = true) {N : Nat} (hw : waits md ops N k i = true) (hc : closedB md ops l = true) (hk : l.getD k true = false)
    (hQ : ∀ c a w, Q (.panic c) (a.put o.dst v) w → Q (.panic c) a w) (hy : YieldsIf P ops S o v a) (hS : S w) (hT : T w)
    (h : anyT P md ops Q k S T n (l.setIfInBounds i true) (a.put o.dst v) w) : anyT P md ops Q k S T (n + 1) l a w :=
  anyT_first hi (Region.noSelect_spec hs) hQ hw n l a w (closedB_spec hc) (Region.free_spec hi hf) (by simpa using hr) hy hS hT hk h
theorem anyT_takeT {i : Nat} {o : Oper} {v : Value} {n : Nat} {l : Array Bool} {a : Act} {w : World} (hi : ops[i]? = some o) (hik : i ≠ k)
    (hs : Region.noSelect ops = true) (hf : Region.free md ops l i = true) (hr : (Region.ready md ops l).contains i = true)
    (hQ : ∀ c a w, Q (.panic c) (a.put o.dst v) w → Q (.panic c) a w) (hy : YieldsIf P ops T o v a) (hT : T w) (hS : l.getD k true = false → S w)
    (h : anyT P md ops Q k S T n (l.setIfInBounds i true) (a.put o.dst v) w) : anyT P md ops Q k S T (n + 1) l a w :=
  anyT_firstT hi hik (Region.noSelect_spec hs) hQ n l a w (Region.free_spec hi hf) (by simpa using hr) hy hT hS h
theorem anyT_one {i : Nat} {o : Oper} {n : Nat} {l : Array Bool} {a : Act} {w : World} (hr : Region.ready md ops l = [i]) (ho : ops[i]? = some o)
    (h : ∀ K' : Act → World → Prop, Shut (∀ a w, T w → ((l.setIfInBounds i true).getD k true = false → S w) → anyT P md ops Q k S T n (l.setIfInBounds i true) a w → K' a w) → if Region.wanted o (yielded ops a.tmps) = true then Oper.wp P o a w K' Q else K' (a.put o.dst undef) w) :
    anyT P md ops Q k S T (n + 1) l a w := by
  refine ⟨fun h0 => (by rw [hr] at h0; cases h0), fun j hj => ?_⟩
  rw [hr] at hj
  rcases List.mem_singleton.1 hj with rfl
  exact wpOp_step ho (fun K' hK => h K' (fun a w hT hS hW => hK a w ⟨hT, hS, hW⟩))
theorem anyT_done {l : Array Bool} {a : Act} {w : World} (hr : Region.ready md ops l = []) (h : Q .normal a w) (n : Nat) : anyT P md ops Q k S T n l a w := by
  cases n with
  | zero => exact ⟨hr, h⟩
  | succ n => exact ⟨fun _ => h, fun i hi => by rw [hr] at hi; cases hi⟩
end
end Go.Proofs.YtlokfalkhgjlbaaDoor
namespace Go.Proofs.YtlokfalkhgjlbaaDoor
open Go.RowKit

set_option maxHeartbeats 400000 in
/-- '[]api.Op{x}' in a drawn region. -/
theorem stepK_buildP {ops : Array Oper} {o : Oper} {a : Act} {K : Act → World → Prop} {Q : Exit → Act → World → Prop} {E : Prop} {w : World} (hgd : o.guard = none) (x : Operand) (ho : o.op = .buildSlice 32 1 #[(0, x)]) (k0 k1 : Int) (a1 : Option Addr) (n1 c1 : Nat) (k3 k4 : Int) (a2 : Option Addr) (n2 c2 : Nat)
    (hx : a.eval x = .agg #[.int .i64 k0, .int .i64 k1, .slice a1 n1 c1, .int .i64 k3, .int .i64 k4, .slice a2 n2 c2]) (h : K (a.put o.dst (.slice (some ⟨w.heap.size, 0, none⟩) 1 1)) (w.alloc (.cells #[.int .i64 k0, .int .i64 k1, .slice a1 n1 c1, .int .i64 k3, .int .i64 k4, .slice a2 n2 c2] 46))) :
    if Region.wanted o (yielded ops a.tmps) = true then Oper.wp Tryd.prog o a w K Q else E := by
  have hw : Region.wanted o (yielded ops a.tmps) = true := by simp [Region.wanted, hgd]
  rw [if_pos hw]
  obtain ⟨od, oo, ot, opp, oa, og⟩ := o
  simp only at ho
  subst ho
  have HH := Lib.hid h
  clear h
  unfold Oper.wp execOp
  simp only [hx, List.map_toArray, List.map_cons, List.map_nil]
  go_simp
  exact HH.out

/-- slices.Clone of ints: in a block of its own. -/
theorem clone_own (ao : Option Addr) (n c : Nat) (l : List Int) (w : World) (h : IntsAt w ao n l) (hb : n * 8 ≤ 140737488355328) :
    Calls Tryd.prog 55 #[.slice ao n c] w fun e w' => ∃ a' c', e = .returned (.slice a' n c') ∧ Iow w' w.heap.size a' n c' l ∧ Ext w w' := by
  have fin : ∀ {v' : Value} {w' : World} {xs : List Value}, w'.ownsRow w.heap.size 3 1 v' n xs → xs = iC l → ∃ a' c', v' = .slice a' n c' ∧ Iow w' w.heap.size a' n c' l := fun h1 h2 => by
    subst h2
    exact io_of_own h1
  cases ao with
  | none =>
    have hn : n = 0 := by
      rcases h.2 with h0 | ⟨b, o, e, _⟩
      · exact h0
      · cases e
    subst hn
    refine (Tryd.slices_Clone_int_nil 0 c w).mono ?_
    rintro e w' ⟨rfl, rfl⟩
    have hl : l = [] := List.length_eq_zero_iff.1 h.1
    exact ⟨none, 0, rfl, by rw [hl]; exact ⟨rfl, Or.inl ⟨rfl, rfl⟩⟩, Ext.refl _⟩
  | some ad =>
    by_cases hn : n = 0
    · subst hn
      have hl : l = [] := List.length_eq_zero_iff.1 h.1
      refine (Tryd.slices_Clone_int_zero ad c w).mono ?_
      rintro e w' ⟨v', rfl, h1, _, h3⟩
      obtain ⟨a', c', rfl, h5⟩ := fin h1 (by rw [hl]; rfl)
      exact ⟨a', c', rfl, h5, h3⟩
    · obtain ⟨b, o, e, hbl, hc⟩ := h.at (by omega)
      cases e
      refine (Tryd.slices_Clone_int b o n c l w (by rw [h.1]; exact Nat.le_refl _) hb (fun j hj => hc j (by rw [h.1] at hj; exact hj))).mono ?_
      rintro e w' ⟨v', rfl, h1, _, h3⟩
      obtain ⟨a', c', rfl, h5⟩ := fin h1 (by rw [List.take_of_length_le (by rw [h.1]; exact Nat.le_refl _)]; rfl)
      exact ⟨a', c', rfl, h5, h3⟩
theorem Iow.addr' {w : World} {base n c : Nat} {a : Option Addr} {l : List Int} (h : Iow w base a n c l) (hn : 0 < n) : ∃ g, a = some ⟨g, 0, none⟩ := by
  rcases h.2 with ⟨e, _⟩ | ⟨g, cap, cur, hv, _⟩
  · injection e with _ e _
    omega
  · injection hv with e _ _
    exact ⟨g, e⟩
theorem Iow.cell' {w : World} {base g n c : Nat} {l : List Int} (h : Iow w base (some ⟨g, 0, none⟩) n c l) (i : Nat) (hi : i < n) : w.cell? ⟨g, i, none⟩ = some (.int .i64 (l.getD i 0)) ∧ w.frozen? ⟨g, i, none⟩ = false := by
  obtain ⟨_, _, h3, _⟩ := h.ints
  obtain ⟨b, o, e, _, hc⟩ := h3.at (by omega)
  cases e
  have h1 := hc i hi
  rw [Nat.zero_add] at h1
  refine ⟨h1, ?_⟩
  rcases h.2 with ⟨e, _⟩ | ⟨g', cap, cur, hv, _, hg, _⟩
  · cases e
  · injection hv with e _ _
    cases e
    exact frozen_of_row w g i _ _ hg
theorem Iow.put' {w : World} {base g n c i : Nat} {l : List Int} (h : Iow w base (some ⟨g, 0, none⟩) n c l) (_hi : i < n) (v : Int) : Iow (w.setCell ⟨g, i, none⟩ (.int .i64 v)) base (some ⟨g, 0, none⟩) n c (l.set i v) := by
  have hl : l.length = n := by have := h.1; simpa [iC] using this
  refine ⟨by unfold iC; rw [List.length_map, List.length_set, hl, Nat.mul_one], ?_⟩
  rcases h.2 with ⟨e, _⟩ | ⟨g', cap, cur, hv, hb, hg, hnc, hcm, hsz, htk⟩
  · cases e
  · injection hv with e1 _ e3
    cases e1
    subst e3
    refine Or.inr ⟨g, c, cur.setIfInBounds i (.int .i64 v), rfl, hb, heap_setCell_same w g i _ _ (.int .i64 v) hg, hnc, hcm, by rw [Array.size_setIfInBounds]; exact hsz, ?_⟩
    rw [Array.toList_setIfInBounds, List.take_set, htk]
    unfold iC
    rw [List.map_set]

/-- A block of operations, not the mover's, is written; what is newer may be anything. -/
theorem MvA.frame {w0 u w' : World} {base Bm gs Q H : Nat} {W : List Nat} {st : List Int} {v : Value} {ops : List Gop} (h : MvA w0 u base Bm gs Q W st v ops) (hE : Ext w0 w') (hsz : u.heap.size ≤ w'.heap.size) (hb : ∀ k, k < u.heap.size → k ≠ H → w'.heap[k]? = u.heap[k]?) {cs : Array Value} {fr : Nat × Nat} (hH : u.heap[H]? = some (.cells cs 46 fr)) (hv : v.ownBlock ≠ some H) :
    MvA w0 w' base Bm gs Q W st v ops ∧ ∃ xs, OpsX w' base v ops xs ∧ ∀ (i : Nat) (x : Value) (k : Nat), xs[i]? = some x → x.ownBlock = some k → k < u.heap.size := by
  obtain ⟨xs, hX⟩ := h.ops
  have hne : ∀ {k : Nat} {c : Array Value} {T : TypeId} {f : Nat × Nat}, u.heap[k]? = some (.cells c T f) → T ≠ 46 → k ≠ H := fun hk hT e => by
    rw [e, hH] at hk
    injection hk with hk
    injection hk with _ hk _
    exact hT hk.symm
  have hX' : OpsX w' base v ops xs := hX.keep (fun g hg => hb g (h.older hg).2.1 (fun e => hv (e ▸ hg))) (fun b cur f hbb => hb b (Array.getElem?_eq_some_iff.1 hbb).1 (hne hbb (by decide)))
  exact ⟨⟨hE, h.hB, h.hBb, h.hg, h.hgb, Nat.le_trans h.hs hsz, h.wl, h.wu, (hb _ h.lt (hne h.row (by decide))).trans h.row, (hb _ h.slt (hne h.srow (by decide))).trans h.srow, h.len, ⟨xs, hX'⟩⟩, xs, hX', hX.old⟩

set_option maxRecDepth 100000 in
/-- One more operation, its lists newer than B. -/
theorem mv_append2 {w0 wC : World} {base Bm gs Q B : Nat} {W : List Nat} {st : List Int} {v : Value} {ops : List Gop} {xs : List Value} (hC : MvA w0 wC base Bm gs Q W st v ops) (hX : OpsX wC base v ops xs) (hold : ∀ (i : Nat) (x : Value) (k : Nat), xs[i]? = some x → x.ownBlock = some k → k < B) (hbB : base ≤ B) (ty : TypeId) {g : Gop} {a1 : Option Addr} {n1 c1 : Nat} {a2 : Option Addr} {n2 c2 : Nat} (hO : OpN wC B g a1 n1 c1 a2 n2 c2) (ad : Addr)
    (k2 : ∀ j u, ([.int .i64 g.kind, .int .i64 g.k, .slice a1 n1 c1, .int .i64 g.q, .int .i64 g.bit, .slice a2 n2 c2] : List Value)[j]? = some u → wC.cell? (ad.add j) = some u) (hm : ops.length ≤ 1000000) :
    ∃ a' c' w1, (Builtin.append_ #[32, 32] ty #[v, .slice (some ad) 1 1]).run Tryd.prog wC = .ok (.slice a' (ops.length + 1) c') w1 ∧ w1.heap[Bm]? = wC.heap[Bm]? ∧ (∀ k, k < wC.heap.size → v.ownBlock ≠ some k → w1.heap[k]? = wC.heap[k]?) ∧
      MvA w0 (w1.setCell ⟨Bm, 13, none⟩ (.slice a' (ops.length + 1) c')) base Bm gs Q W st (.slice a' (ops.length + 1) c') (ops ++ [g]) ∧ MvX Bm gs v (.slice a' (ops.length + 1) c') wC (w1.setCell ⟨Bm, 13, none⟩ (.slice a' (ops.length + 1) c')) := by
  obtain ⟨i0, hi, hz0, hz1, hz2⟩ := opInfo
  obtain ⟨v', w1, e1, e2, e3, _, e5⟩ := run_append_own_at (P := Tryd.prog) wC base 32 ty 46 i0 _ 6 80 Tryd.underlying32 hi hz0 hz1 hz2 rfl (by decide) v ops.length xs hX.own ad 1 1 _ rfl k2 (one_op _ _ _ _ _ _ _ _ _ _) (by unfold maxLen; omega) (by omega) hC.hs
  obtain ⟨a', c', hv'⟩ : ∃ a' c', v' = .slice a' (ops.length + 1) c' := by
    rcases e2.2 with ⟨rfl, h0⟩ | ⟨g, cap, cur, rfl, _⟩
    · omega
    · exact ⟨_, _, rfl⟩
  subst hv'
  have hkd : ∀ k, v.ownBlock = some k → base ≤ k ∧ k < wC.heap.size ∧ ∃ cs fr, wC.heap[k]? = some (.cells cs 46 fr) := fun k hk => hC.older hk
  have hbk : w1.heap[Bm]? = wC.heap[Bm]? := e3.block Bm hC.lt (fun e => by
    obtain ⟨_, _, cs, fr, hr⟩ := hkd Bm e.symm
    rw [hC.row] at hr
    injection hr with hr
    injection hr with _ hr _
    exact absurd hr (by decide))
  have hOn := only1 w1 Bm 13 (.slice a' (ops.length + 1) c')
  have hrow1 : w1.heap[Bm]? = some (.cells (mvC W (.slice (some ⟨gs, 0, none⟩) Q Q) v) 84 (0, 0)) := hbk.trans hC.row
  have hk : ∀ (b : Nat) (cur : Array Value) (fr : Nat × Nat), wC.heap[b]? = some (.cells cur 3 fr) → (w1.setCell ⟨Bm, 13, none⟩ (.slice a' (ops.length + 1) c')).heap[b]? = wC.heap[b]? := by
    intro b cur fr hb
    have hbl := (Array.getElem?_eq_some_iff.1 hb).1
    rw [hOn.block b (fun e => by
      rw [e, hC.row] at hb
      injection hb with hb
      injection hb with _ hb _
      exact absurd hb (by decide))]
    exact e3.block b hbl (fun e => by
      obtain ⟨_, _, cs, fr', hr⟩ := hkd b e.symm
      rw [hb] at hr
      injection hr with hr
      injection hr with _ hr _
      exact absurd hr (by decide))
  have hsz : wC.heap.size ≤ (w1.setCell ⟨Bm, 13, none⟩ (.slice a' (ops.length + 1) c')).heap.size := by rw [hOn.size]; exact e3.size
  refine ⟨a', c', w1, e1, hbk, fun k hk1 h3 => e3.block k hk1 (fun e => h3 e.symm), ⟨?_, hC.hB, hC.hBb, hC.hg, hC.hgb, Nat.le_trans hC.hs hsz, hC.wl, hC.wu, ?_, ?_, hC.len, ?_⟩, ?_⟩
  · have hx1 : Ext w0 w1 := grown_ext hC.ext e3 (fun k hk => by have := (hkd k hk).1; have := hC.hB; have := hC.hBb; omega)
    exact ext_only' hx1 hOn hC.hB
  · have := heap_setCell_same w1 Bm 13 _ _ (.slice a' (ops.length + 1) c') hrow1
    rw [← mvC_set hC.wl]
    simpa using this
  · exact (hk gs _ _ hC.srow).trans hC.srow
  · refine ⟨_, OpsX.snoc hX ?_ hk hold hbB (hO.keep hk)⟩
    refine own_keep e2 (fun b cur hb hbc => hOn.block b ?_)
    rintro rfl
    rw [hrow1] at hbc
    injection hbc with hbc
    injection hbc with _ hbc _
    exact absurd hbc (by decide)
  · refine ⟨hsz, fun k hk1 h1 _ h3 => ?_, fun k hk1 => ?_⟩
    · rw [hOn.block k h1]
      exact e3.block k hk1 (fun e => h3 e.symm)
    · rcases e5 with e | e
      · exact Or.inl (by rw [← e]; exact hk1)
      · rw [e] at hk1
        injection hk1 with hk1
        exact Or.inr (by omega)
end Go.Proofs.YtlokfalkhgjlbaaDoor
