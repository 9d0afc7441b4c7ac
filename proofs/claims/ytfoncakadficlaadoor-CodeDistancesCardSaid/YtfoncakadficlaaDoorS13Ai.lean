/-
  CodeDistances' walk. A circuit that was handed in, opened: its operations and their lists as they lie in memory. A list of ints that was handed in, opened. A list of ints that was handed in, opened: where it has no address it is empty. The table of kinds, as it is laid; what is asked behind a call that leaves all that lay there as it was. A code that was handed in, opened: its generators as they lie in memory; the table of letters, as it is laid.
-/
import Derived.Test.YtfoncakadficlaaDoorProg
import Derived.Test.YtfoncakadficlaaDoorRows
import Derived.BigQuiet
import Derived.Carry
import Derived.ChangeSame
import Derived.ChangeShapes
import Derived.Deep.AppendLies
import Derived.Deep.Cut
import Derived.Deep.CutRange
import Derived.Deep.LoopGhost
import Derived.Deep.QuietTactic
import Derived.Deep.RegionHeld3
import Derived.Deep.Slices
import Derived.DeepKeys4
import Derived.FnData
import Derived.Laws.Bits64b
import Derived.Laws.CopyOwn
import Derived.Laws.ResultCell
import Derived.Lib.AppendStr
import Derived.Lib.AppendZeros
import Derived.Lib.BitFns
import Derived.Lib.Hide
import Derived.Lib.ItoaMem
import Derived.Lib.ItoaNum
import Derived.Lib.Strings
import Derived.LoopIn
import Derived.LoopNIn
import Derived.Maps.AppendAt
import Derived.Maps.OwnSet
import Derived.OpenShut
import Derived.OwnWalk
import Derived.OwnWalkIn
import Derived.RangeFuncBound
import Derived.RangeFuncBox
import Derived.RangeFuncCalls
import Derived.RangeFuncGives
import Derived.RangeFuncLeaves
import Derived.RangeFuncNested
import Derived.RangeFuncStops
import Derived.Shelf.Abstract
import Derived.Shelf.Bits.Mul64
import Derived.Shelf.RegionOpen
import Derived.Shelf.Small.Strs
import Derived.Shelf.Strings.Builder1
import Derived.Shelf.Strings.BuilderF
import Derived.Shelf.Strings.BuilderK
import Derived.Shelf.Strings.Prefix
import Derived.Shelf.Strings.Search1
import Derived.SizedLaws
import Derived.Sort.MapsRangeIn
import Derived.Stop.LaidErr
import Derived.TacticsInMore
import Derived.WalkKit
import Derived.WalkLawsBesides
import Derived.WalkSpells
import Derived.Test.YtfoncakadficlaaDoorS00Ca
import Derived.Test.YtfoncakadficlaaDoorShelf
import Derived.Test.YtfoncakadficlaaDoorS02Ig
import Derived.Test.YtfoncakadficlaaDoorS03In
import Derived.Test.YtfoncakadficlaaDoorS04Is
import Derived.Test.YtfoncakadficlaaDoorS05It
import Derived.Test.YtfoncakadficlaaDoorS06Ix
import Derived.Test.YtfoncakadficlaaDoorS07Aa
import Derived.Test.YtfoncakadficlaaDoorS08Aj
import Derived.Test.YtfoncakadficlaaDoorS09Al
import Derived.Test.YtfoncakadficlaaDoorS10Am
import Derived.Test.YtfoncakadficlaaDoorS11An
import Derived.Test.YtfoncakadficlaaDoorS12Ar
namespace Go.Proofs.YtfoncakadficlaaDoor
open Go.RowKit

set_option maxRecDepth 100000 in
set_option maxHeartbeats 16000000 in
theorem cdist_walk (N : Int) (gens : List (List UInt8)) (s : List Int) (ao : Option Addr) (k cp : Nat) (bo : Option Addr) (n cb : Nat) (w : World) (hG : StrsAt w ao k gens) (hT : ∀ T ∈ gens, T.length ≤ 9223372036854775807) (hk9 : k * 16 ≤ 140737488355328) (hnil : ao = none → cp = 0) (hI : IntsAt w bo n s) (hn8 : n * 8 ≤ 140737488355328) (hnil2 : bo = none → cb = 0) (hL : LtL w) :
    Calls Tryd.prog 4 #[.agg #[.int .i64 N, .slice ao k cp], .slice bo n cb] w fun e w' => e = .returned (.bool true) ∧ Ext w w' := by
  have hk6 : k ≤ 9223372036854775806 := by omega
  obtain ⟨H, hH⟩ : ∃ H, w.heap.size = H := ⟨_, rfl⟩
  obtain ⟨W0, hW0⟩ : ∃ W0, w.alloc (.cells #[.int .i64 N, .slice ao k cp] 24) = W0 := ⟨_, rfl⟩
  have E0 : Ext w W0 := by rw [← hW0]; exact ext_al w _
  have C0 : CoB W0 H N ao k cp := by rw [← hW0, ← hH]; exact CoB.new w _ _ _ _
  have HC := Lib.hid (copyCode_any N gens ao k cp W0 (hG.ext E0) hk9 hnil)
  have HE0 := Lib.hid E0; have HD := Lib.hid C0; have HW0 := Lib.hid hW0; have HH := Lib.hid hH; have Hh := Lib.hid (hG.ext E0); have HL := Lib.hid (hL.ext E0); have HT := Lib.hid hT; have Hk6 := Lib.hid hk6; have HI := Lib.hid (hI.ext E0); have Hn8 := Lib.hid hn8; have Hnil2 := Lib.hid hnil2
  have Hn6 := Lib.hid (show n ≤ 9223372036854775806 by omega)
  have Hlg := Lib.hid (show gens.length = k from hG.1)
  have v0 := C0.x0; have v1 := C0.x1
  clear hG hT hk9 hnil hI hn8 hnil2 hL E0 C0 hW0 hH hk6
  go_enter Tryd.func4, Tryd.ntmps4
  go_upto_region 1 with fail
  rw [HW0.out, HH.out]
  go_wp2_with fail
  refine HC.out.mono ?_
  rintro e w1 ⟨a1, c1, rfl, ⟨hL1, hc1, hm1⟩, hx1⟩
  obtain ⟨K, hK⟩ : ∃ K, w1.heap.size = K := ⟨_, rfl⟩
  obtain ⟨U, hU⟩ : ∃ U, w1.alloc (.cells #[.int .i64 N, .slice a1 k c1] 24) = U := ⟨_, rfl⟩
  have EU : Ext w1 U := by rw [← hU]; exact ext_al _ _
  have bU : CoB U K N a1 k c1 := by rw [← hU, ← hK]; exact CoB.new _ _ _ _ _
  have EX := hx1.trans EU
  obtain ⟨b1, c1b, w2, hap, hc1b, hm1b, hI1, hx2⟩ := copy_ints (HI.out.ext EX) Hn8.out Hnil2.out
  have HX := Lib.hid (EX.trans hx2); have HbU := Lib.hid (bU.ext hx2); have HLU := Lib.hid ((hL1.ext EU).ext hx2); have HU := Lib.hid hU; have HK := Lib.hid hK; have HI1 := Lib.hid hI1; have Hap := Lib.hid hap; have Hc1b := Lib.hid (And.intro hc1b hm1b)
  have HwU := Lib.hid (show H < w2.heap.size ∧ K < w2.heap.size from ⟨Nat.lt_of_lt_of_le HD.out.lt (EX.trans hx2).size, (bU.ext hx2).lt⟩)
  clear hL1 hc1 hm1 hx1 EU bU hU hK v0 v1 HC EX hap hc1b hm1b hI1 hx2
  go_upto_region 2 with fail
  rw [HU.out, HK.out]
  clear HU HK
  go_upto_region 3 with (at_builtin; refine Lib.wpList_append_run _ rfl _ _ _ _ rfl _ _ rfl rfl _ _ Hap.out ?_)
  clear Hap
  have hc0 := HD.out.ext HX.out
  have v0 := hc0.x0; have v1 := hc0.x1
  have HCD := Lib.hid (CheckCode_any N gens ao k cp w2 (Hh.out.ext HX.out) HT.out Hk6.out)
  obtain ⟨d, hd⟩ : ∃ d, ccF N gens = d := ⟨_, rfl⟩
  obtain ⟨d0, d1⟩ := d
  rw [hd] at HCD
  have Hd := Lib.hid hd
  have HE2 := Lib.hid (HE0.out.trans HX.out)
  clear hc0 hd
  go_wp2_with fail
  refine HCD.out.mono ?_
  rintro e w3 ⟨rfl, hx3⟩
  obtain ⟨B7, hB7⟩ : ∃ B, w3.heap.size = B := ⟨_, rfl⟩
  obtain ⟨X, hX⟩ : ∃ X, w3.alloc (.cells #[.int .i64 d0, .int .i64 d1] 27) = X := ⟨_, rfl⟩
  have EX : Ext w2 X := by rw [← hX]; exact hx3.trans (ext_al _ _)
  have bX : FtB X B7 d0 d1 := by rw [← hX, ← hB7]; exact ⟨heap_alloc_new w3 _⟩
  have HB7 := Lib.hid hB7; have HXe := Lib.hid hX; have HEX := Lib.hid EX; have HbX := Lib.hid bX
  have H27 := Lib.hid (show w2.heap.size ≤ B7 by rw [← hB7]; exact hx3.size)
  have v0 := cell_ext v0 EX; have v1 := cell_ext v1 EX
  have z0 := bX.x0; have z1 := bX.x1
  have HbU := Lib.hid (HbU.out.ext EX)
  have u0 := HbU.out.x0; have u1 := HbU.out.x1
  clear hB7 hX EX bX hx3 HCD
  go_upto_region 4 with fail
  rw [HXe.out, HB7.out]
  clear HXe HB7
  obtain ⟨Bz, hBz⟩ : ∃ Bz, decide (d0 = 0 ∧ 5 < N ∧ N < 10) = Bz := ⟨_, rfl⟩
  have HBz := Lib.hid hBz
  clear hBz
  go_cut [30] from 18 to 30 (fun s30 wx => s30 = .bool Bz ∧ wx = X)
  case first =>
    by_cases h0 : d0 = 0
    · have t0 := bt' h0
      by_cases h5 : 5 < N
      · have t5 : decide (5 < N) = true := decide_eq_true h5
        by_cases h10 : N < 10
        · have t10 : decide (N < 10) = true := decide_eq_true h10
          have HBf := Lib.hid (show true = Bz by rw [← HBz.out]; exact (decide_eq_true ⟨h0, h5, h10⟩).symm)
          clear h0
          go_wp2_with fail
          go_meet
          exact ⟨congrArg Value.bool HBf.out, rfl⟩
        · have t10 : decide (N < 10) = false := decide_eq_false h10
          have HBf := Lib.hid (show false = Bz by rw [← HBz.out]; exact (decide_eq_false (fun h => h10 h.2.2)).symm)
          clear h0 h10
          go_wp2_with fail
          go_meet
          exact ⟨congrArg Value.bool HBf.out, rfl⟩
      · have t5 : decide (5 < N) = false := decide_eq_false h5
        have HBf := Lib.hid (show false = Bz by rw [← HBz.out]; exact (decide_eq_false (fun h => h5 h.2.1)).symm)
        clear h0 h5
        go_wp2_with fail
        go_meet
        exact ⟨congrArg Value.bool HBf.out, rfl⟩
    · have t0 := bf h0
      have HBf := Lib.hid (show false = Bz by rw [← HBz.out]; exact (decide_eq_false (fun h => h0 h.1)).symm)
      clear h0
      go_wp2_with fail
      go_meet
      exact ⟨congrArg Value.bool HBf.out, rfl⟩
  case rest =>
  obtain ⟨rfl, rfl⟩ := hcut
  have HB := Lib.hid (codeBegun_any wc (HL.out.ext (HX.out.trans HEX.out)))
  cases Bz
  rotate_left 1
  · clear v0 v1 z0 z1 u0 u1
    go_wp2_with fail
    refine HB.out.mono ?_
    rintro e w9 ⟨rfl, hx9⟩
    have HEf := Lib.hid (HE2.out.trans (HEX.out.trans hx9))
    clear hx9
    go_wp2_with fail
    go_ret
    exact ⟨rfl, HEf.out⟩
  have HDi := Lib.hid (Distance_any N gens a1 k c1 wc (HLU.out.ext HEX.out) HT.out Hk6.out (HL.out.ext (HX.out.trans HEX.out)))
  obtain ⟨R, hR⟩ : ∃ R, rsF N gens = R := ⟨_, rfl⟩
  obtain ⟨r0, r1⟩ := R
  obtain ⟨dn, hdn⟩ : ∃ dn, diN N.toNat gens = dn := ⟨_, rfl⟩
  rw [hR, hdn] at HDi
  have HR := Lib.hid hR; have Hdn := Lib.hid hdn
  clear hR hdn v0 v1 z0 z1
  go_upto_region 6 with fail
  go_wp2_with fail
  refine HDi.out.mono ?_
  rintro e w4 ⟨rfl, hx4⟩
  simp only
  obtain ⟨dv, hdv⟩ : ∃ dv : Int, (if r0 = 0 then (dn : Int) else 0) = dv := ⟨_, rfl⟩
  rw [hdv]
  obtain ⟨B9, hB9⟩ : ∃ B, w4.heap.size = B := ⟨_, rfl⟩
  obtain ⟨Y5, hY5⟩ : ∃ X, w4.alloc (.cells #[.int .i64 r0, .int .i64 r1] 27) = X := ⟨_, rfl⟩
  have E5 : Ext wc Y5 := by rw [← hY5]; exact hx4.trans (ext_al _ _)
  have E25 : Ext w2 Y5 := HEX.out.trans E5
  have b9 : FtB Y5 B9 r0 r1 := by rw [← hY5, ← hB9]; exact ⟨heap_alloc_new w4 _⟩
  have h79 : B7 < B9 := by rw [← hB9]; exact Nat.lt_of_lt_of_le HbX.out.lt hx4.size
  have hQ : DsS w2 Y5 N gens s ao k cp a1 c1 bo n b1 H K B7 B9 d0 d1 r0 r1 :=
    ⟨fun x hx => hx.trans E25, HD.out.ext (HX.out.trans E25), HbU.out.ext E5, HbX.out.ext E5, b9, Hh.out.ext (HX.out.trans E25), HLU.out.ext E25, HI.out.ext (HX.out.trans E25), HI1.out.ext E25, HL.out.ext (HX.out.trans E25), ⟨HwU.out.1, HwU.out.2, H27.out, h79, (HL.out.ext HX.out).lt⟩, HI.out.ext HX.out, HI1.out⟩
  have HQ := Lib.hid hQ; have Hdv := Lib.hid hdv; have HB9 := Lib.hid hB9; have HY5 := Lib.hid hY5
  have Hw2 := Lib.hid HE2.out
  have z0 := hQ.g.x0; have z1 := hQ.g.x1; have v0 := hQ.c.x0; have v1 := hQ.c.x1; have zf0 := hQ.g.f 0; have zf1 := hQ.g.f 1
  clear hdv hB9 hY5 E5 E25 b9 h79 hQ hx4 HDi u0 u1 HB
  go_upto_region 7 with fail
  rw [HY5.out, HB9.out]
  clear HY5 HB9
  -- the reference's fault becomes the program's
  obtain ⟨Bt, hBt⟩ : ∃ Bt, decide (d0 = 0 ∧ 9 < N) = Bt := ⟨_, rfl⟩
  have HBt := Lib.hid hBt
  clear hBt
  go_cut [44] from 37 to 44 (fun s44 wx => s44 = .bool Bt ∧ wx = Y5)
  case first =>
    by_cases h0 : d0 = 0
    · have t0 := bt' h0
      by_cases h9 : 9 < N
      · have t9 : decide (9 < N) = true := decide_eq_true h9
        have HBf := Lib.hid (show true = Bt by rw [← HBt.out]; exact (decide_eq_true ⟨h0, h9⟩).symm)
        clear h0
        go_wp2_with fail
        go_meet
        exact ⟨congrArg Value.bool HBf.out, rfl⟩
      · have t9 : decide (9 < N) = false := decide_eq_false h9
        have HBf := Lib.hid (show false = Bt by rw [← HBt.out]; exact (decide_eq_false (fun h => h9 h.2)).symm)
        clear h0 h9
        go_wp2_with fail
        go_meet
        exact ⟨congrArg Value.bool HBf.out, rfl⟩
    · have t0 := bf h0
      have HBf := Lib.hid (show false = Bt by rw [← HBt.out]; exact (decide_eq_false (fun h => h0 h.1)).symm)
      clear h0
      go_wp2_with fail
      go_meet
      exact ⟨congrArg Value.bool HBf.out, rfl⟩
  case rest =>
  obtain ⟨rfl, rfl⟩ := hcut
  have hR1 : Bt = false → d0 = r0 ∧ d1 = r1 := fun h => by
    have h1 := HR.out
    have h2 := of_decide_eq_false (HBt.out.trans h)
    unfold rsF at h1
    rw [if_neg (by rw [Hd.out]; exact h2), Hd.out] at h1
    exact ⟨congrArg Prod.fst h1, congrArg Prod.snd h1⟩
  have hR2 : Bt = true → r0 = 21 ∧ r1 = 0 := fun h => by
    have h1 := HR.out
    have h2 := of_decide_eq_true (HBt.out.trans h)
    unfold rsF at h1
    rw [if_pos (by rw [Hd.out]; exact h2)] at h1
    exact ⟨(congrArg Prod.fst h1).symm, (congrArg Prod.snd h1).symm⟩
  have HR1 := Lib.hid hR1; have HR2 := Lib.hid hR2
  clear hR1 hR2
  go_upto_if 44 with fail
  go_cut [44] from 37 to 45 (fun _ wx => DsS w2 wx N gens s ao k cp a1 c1 bo n b1 H K B7 B9 r0 r1 r0 r1)
  case first =>
    cases Bt
    · obtain ⟨e0, e1⟩ := HR1.out rfl
      have hq := HQ.out
      rw [e0, e1] at hq
      have HQ := Lib.hid hq
      clear hq e0 e1 z0 z1 zf0 zf1 v0 v1
      go_wp2_with fail
      go_meet
      exact HQ.out
    · obtain ⟨rfl, rfl⟩ := HR2.out rfl
      have HQ := Lib.hid (HQ.out.put7 21 0)
      clear v0 v1
      go_wp2_with fail
      go_meet
      exact HQ.out
  case rest =>
  have HQ := Lib.hid hcut
  have HB := Lib.hid (codeBegun_any wc hcut.lt)
  clear hcut z0 z1 zf0 zf1 v0 v1 HR1 HR2 HBt
  go_upto_region 9 with fail
  go_wp2_with fail
  refine HB.out.mono ?_
  rintro e w6 ⟨rfl, hx6⟩
  have hq := HQ.out.ext hx6
  have v0 := hq.c.x0; have v1 := hq.c.x1; have z0 := hq.g.x0; have z1 := hq.g.x1; have y0 := hq.f.x0; have y1 := hq.f.x1
  have HQ6 := Lib.hid hq
  clear hq hx6 HB HQ
  by_cases hr : r0 = 0
  rotate_left 1
  · -- the code has a fault
    have hdz : dv = 0 := by have := Hdv.out; rw [if_neg hr] at this; exact this.symm
    subst hdz
    have hcn := nt hr; have hcb := bf hr
    have HDe := Lib.hid (fun wx (hx : Ext w6 wx) => Decode_any N gens s a1 k c1 b1 n c1b wx ((HQ6.out.ext hx).hs1) HT.out Hk6.out ((HQ6.out.ext hx).hi1) ((HQ6.out.ext hx).lt))
    rw [show deF N gens s = (r0, r1) by unfold deF; rw [if_pos (by rw [HR.out]; exact hr), HR.out]] at HDe
    unfold DeR at HDe
    rw [if_neg (show ¬ (r0, r1).1 = 0 from hr)] at HDe
    have HDe1 := Lib.hid (HDe.out w6 (Ext.refl _))
    have Hr := Lib.hid hr
    clear hr HDe
    go_upto_region 11 with fail
    clear v0 v1 z0 z1 y0 y1
    have u0 := HQ6.out.d.x0; have u1 := HQ6.out.d.x1
    go_wp2_with fail
    refine HDe1.out.mono ?_
    rintro e w7 ⟨rfl, hx7⟩
    have hq := HQ6.out.ext hx7
    have y0 := hq.f.x0; have y1 := hq.f.x1; have yf0 := hq.f.f 0; have yf1 := hq.f.f 1
    have HQ8 := Lib.hid (hq.put9 r0 r1)
    clear hq hx7 HDe1 u0 u1
    go_upto_region 12 with fail
    clear y0 y1 yf0 yf1
    generalize (w7.setCell ⟨B9, 0, none⟩ (.int .i64 r0)).setCell ⟨B9, 1, none⟩ (.int .i64 r1) = W8 at *
    have z0 := HQ8.out.g.x0
    go_wp2_with fail
    go_loopg [11] 0 (fun kk s11 wr => s11 = .int .i64 0 ∧ wr = W8)
    case atStart => exact ⟨rfl, rfl⟩
    case round =>
      obtain ⟨rfl, rfl⟩ := hrel
      by_cases hn0 : (0 : Int) < (n : Int)
      · go_upto_region 19 with fail
        clear hcb hcn z0 hn0
        have hq := HQ8.out
        have v0 := hq.c.x0; have v1 := hq.c.x1; have u0 := hq.d.x0; have u1 := hq.d.x1; have z0 := hq.g.x0; have z1 := hq.g.x1; have y0 := hq.f.x0; have y1 := hq.f.x1
        have HSD := Lib.hid (sameCode_any N gens a1 k c1 ao cp _ hq.hs1 hq.hs Hk6.out)
        have HQ := Lib.hid hq
        clear hq
        go_upto_region 19 with fail
        go_wp2_with fail
        refine HSD.out.mono ?_
        rintro e w9 ⟨rfl, hx9⟩
        have hq := HQ.out.ext hx9
        have z0' := hq.g.x0; have z1' := hq.g.x1
        have HSI := Lib.hid (sameInts_dec s s b1 n c1b bo n cb w9 hq.hi1 hq.hi Hn6.out)
        rw [decide_eq_true (rfl : s = s)] at HSI
        have HQ9 := Lib.hid hq
        clear hq hx9 HSD v0 v1 u0 u1 z0 z1 y0 y1
        go_wp2_with fail
        refine HSI.out.mono ?_
        rintro e w10 ⟨rfl, hx10⟩
        have hq := HQ9.out.ext hx10
        have z0 := hq.g.x0; have z1 := hq.g.x1
        have hnz := nt Hr.out
        have HEf := Lib.hid (hq.e w Hw2.out)
        clear hq hx10 HSI z0' z1'
        go_wp2_with fail
        go_ret
        exact ⟨rfl, HEf.out⟩
      · go_upto_region 19 with fail
        clear hcb hcn z0 hn0
        have hq := HQ8.out
        have v0 := hq.c.x0; have v1 := hq.c.x1; have u0 := hq.d.x0; have u1 := hq.d.x1; have z0 := hq.g.x0; have z1 := hq.g.x1; have y0 := hq.f.x0; have y1 := hq.f.x1
        have HSD := Lib.hid (sameCode_any N gens a1 k c1 ao cp _ hq.hs1 hq.hs Hk6.out)
        have HQ := Lib.hid hq
        clear hq
        go_upto_region 19 with fail
        go_wp2_with fail
        refine HSD.out.mono ?_
        rintro e w9 ⟨rfl, hx9⟩
        have hq := HQ.out.ext hx9
        have z0' := hq.g.x0; have z1' := hq.g.x1
        have HSI := Lib.hid (sameInts_dec s s b1 n c1b bo n cb w9 hq.hi1 hq.hi Hn6.out)
        rw [decide_eq_true (rfl : s = s)] at HSI
        have HQ9 := Lib.hid hq
        clear hq hx9 HSD v0 v1 u0 u1 z0 z1 y0 y1
        go_wp2_with fail
        refine HSI.out.mono ?_
        rintro e w10 ⟨rfl, hx10⟩
        have hq := HQ9.out.ext hx10
        have z0 := hq.g.x0; have z1 := hq.g.x1
        have hnz := nt Hr.out
        have HEf := Lib.hid (hq.e w Hw2.out)
        clear hq hx10 HSI z0' z1'
        go_wp2_with fail
        go_ret
        exact ⟨rfl, HEf.out⟩
  -- the code has no fault that matters
  subst hr
  have hr1 : r1 = 0 := by
    have h9 := rs_snd (N := N) (gens := gens) (by rw [HR.out])
    rw [HR.out] at h9; exact h9
  subst hr1
  have hrs := HR.out
  have hcc : ccF N gens = (0, 0) ∧ ¬ 9 < N := by
    unfold rsF at hrs
    split at hrs
    · exact absurd (congrArg Prod.fst hrs) (by decide)
    · rename_i h9
      exact ⟨hrs, fun h => h9 ⟨by rw [hrs], h⟩⟩
  have hdd : d0 = 0 ∧ d1 = 0 := by
    have h9 := Hd.out
    rw [hcc.1] at h9
    exact ⟨(congrArg Prod.fst h9).symm, (congrArg Prod.snd h9).symm⟩
  have hzz := cc_zero (N := N) (gens := gens) (by rw [hcc.1])
  have hN5 : N ≤ 5 := by
    have h8 := of_decide_eq_false HBz.out
    have := hcc.2
    have := hdd.1
    omega
  obtain ⟨nn, rfl⟩ : ∃ nn : Nat, N = (nn : Int) := ⟨N.toNat, by omega⟩
  simp only [Int.toNat_natCast] at hzz
  have Hcc := Lib.hid (show (ccF (nn : Int) gens).1 = 0 by rw [hcc.1]); have Hzz := Lib.hid hzz; have HN5 := Lib.hid (show nn ≤ 5 ∧ 1 ≤ nn by omega)
  have hdv : dv = (dn : Int) := by have := Hdv.out; rw [if_pos rfl] at this; exact this.symm
  subst hdv
  have HDO := Lib.hid (DistanceOf_any gens ao k cp w6 HQ6.out.hs nn (by have := Hlg.out; omega) HN5.out.1 HN5.out.2 hzz.2.2.2)
  rw [← (di_is (n := nn) (gens := gens) Hcc.out).1, show diN nn gens = dn by rw [← Hdn.out, Int.toNat_natCast]] at HDO
  have HDe := Lib.hid (fun wx (hx : Ext w6 wx) => Decode_any (nn : Int) gens s a1 k c1 b1 n c1b wx ((HQ6.out.ext hx).hs1) HT.out Hk6.out ((HQ6.out.ext hx).hi1) ((HQ6.out.ext hx).lt))
  rw [show deF (nn : Int) gens s = rmF s (k : Int) by unfold deF; rw [if_neg (by rw [HR.out]; simp), Hlg.out], Int.toNat_natCast] at HDe
  obtain ⟨D, hD⟩ : ∃ D, rmF s (k : Int) = D := ⟨_, rfl⟩
  obtain ⟨e0, e1⟩ := D
  rw [hD] at HDe
  unfold DeR at HDe
  simp only at HDe
  obtain ⟨T10, hT10⟩ : ∃ T, (if e0 = 0 then 43 :: txL (deP nn gens s) nn else []) = T := ⟨_, rfl⟩
  rw [hT10] at HDe
  have HT10 := Lib.hid hT10; have HDd := Lib.hid hD
  clear hrs hcc hdd hzz hN5 hT10 hD
  go_wp2_with fail
  refine HDO.out.mono ?_
  rintro e w6b ⟨rfl, hx6b⟩
  have HQ7 := Lib.hid (HQ6.out.ext hx6b)
  have HDe1 := Lib.hid (HDe.out w6b hx6b)
  have hnd := nf' (show (dn : Int) = (dn : Int) from rfl)
  clear hx6b HDO HDe v0 v1 z0 z1 y0 y1
  go_upto_region 11 with fail
  clear hnd
  have u0 := HQ7.out.d.x0; have u1 := HQ7.out.d.x1
  go_wp2_with fail
  refine HDe1.out.mono ?_
  rintro e w7 ⟨rfl, hx7⟩
  have hq := HQ7.out.ext hx7
  have y0 := hq.f.x0; have y1 := hq.f.x1; have yf0 := hq.f.f 0; have yf1 := hq.f.f 1
  have HQ8 := Lib.hid (hq.put9 e0 e1)
  clear hq hx7 HDe1 u0 u1
  go_upto_region 12 with fail
  clear y0 y1 yf0 yf1
  generalize (w7.setCell ⟨B9, 0, none⟩ (.int .i64 e0)).setCell ⟨B9, 1, none⟩ (.int .i64 e1) = W8 at *
  have z0 := HQ8.out.g.x0; have zf0 := HQ8.out.g.f 0; have zf1 := HQ8.out.g.f 1; have z1 := HQ8.out.g.x1; have v1 := HQ8.out.c.x1
  have Hls := Lib.hid (show s.length = n from HQ8.out.hi.1)
  by_cases hnk : n = k
  rotate_left 1
  · -- not as many marks as generators
    have t1 := nt (show ¬ (n : Int) = (k : Int) by omega)
    have hE : e0 = 25 ∧ e1 = 0 := by
      have h9 := HDd.out
      unfold rmF at h9
      rw [if_pos (by rw [Hls.out]; omega)] at h9
      exact ⟨(congrArg Prod.fst h9).symm, (congrArg Prod.snd h9).symm⟩
    obtain ⟨rfl, rfl⟩ := hE
    have hT : T10 = [] := by have := HT10.out; rw [if_neg (by decide)] at this; exact this.symm
    subst hT
    have HQ9 := Lib.hid (HQ8.out.put7 25 0)
    clear hnk
    go_upto_region 14 with fail
    clear z0 z1 zf0 zf1 v1 t1
    generalize (W8.setCell ⟨B7, 0, none⟩ (.int .i64 25)).setCell ⟨B7, 1, none⟩ (.int .i64 0) = W9 at *
    have z0 := HQ9.out.g.x0
    go_wp2_with fail
    go_loopg [11] 0 (fun kk s11 wr => s11 = .int .i64 0 ∧ wr = W9)
    case atStart => exact ⟨rfl, rfl⟩
    case round =>
      obtain ⟨rfl, rfl⟩ := hrel
      by_cases hn0 : (0 : Int) < (n : Int)
      · go_upto_region 19 with fail
        clear z0 hn0
        have hq := HQ9.out
        have v0 := hq.c.x0; have v1 := hq.c.x1; have u0 := hq.d.x0; have u1 := hq.d.x1; have z0 := hq.g.x0; have z1 := hq.g.x1; have y0 := hq.f.x0; have y1 := hq.f.x1
        have HSD := Lib.hid (sameCode_any (nn : Int) gens a1 k c1 ao cp _ hq.hs1 hq.hs Hk6.out)
        have HQ := Lib.hid hq
        clear hq
        go_upto_region 19 with fail
        go_wp2_with fail
        refine HSD.out.mono ?_
        rintro e w9 ⟨rfl, hx9⟩
        have hq := HQ.out.ext hx9
        have z0' := hq.g.x0; have z1' := hq.g.x1
        have HSI := Lib.hid (sameInts_dec s s b1 n c1b bo n cb w9 hq.hi1 hq.hi Hn6.out)
        rw [decide_eq_true (rfl : s = s)] at HSI
        have HQ9 := Lib.hid hq
        clear hq hx9 HSD v0 v1 u0 u1 z0 z1 y0 y1
        go_wp2_with fail
        refine HSI.out.mono ?_
        rintro e w10 ⟨rfl, hx10⟩
        have hq := HQ9.out.ext hx10
        have z0 := hq.g.x0; have z1 := hq.g.x1
        have hnz := nt (show ¬ ((25 : Int) = 0) by decide)
        have HEf := Lib.hid (hq.e w Hw2.out)
        clear hq hx10 HSI z0' z1'
        go_wp2_with fail
        go_ret
        exact ⟨rfl, HEf.out⟩
      · go_upto_region 19 with fail
        clear z0 hn0
        have hq := HQ9.out
        have v0 := hq.c.x0; have v1 := hq.c.x1; have u0 := hq.d.x0; have u1 := hq.d.x1; have z0 := hq.g.x0; have z1 := hq.g.x1; have y0 := hq.f.x0; have y1 := hq.f.x1
        have HSD := Lib.hid (sameCode_any (nn : Int) gens a1 k c1 ao cp _ hq.hs1 hq.hs Hk6.out)
        have HQ := Lib.hid hq
        clear hq
        go_upto_region 19 with fail
        go_wp2_with fail
        refine HSD.out.mono ?_
        rintro e w9 ⟨rfl, hx9⟩
        have hq := HQ.out.ext hx9
        have z0' := hq.g.x0; have z1' := hq.g.x1
        have HSI := Lib.hid (sameInts_dec s s b1 n c1b bo n cb w9 hq.hi1 hq.hi Hn6.out)
        rw [decide_eq_true (rfl : s = s)] at HSI
        have HQ9 := Lib.hid hq
        clear hq hx9 HSD v0 v1 u0 u1 z0 z1 y0 y1
        go_wp2_with fail
        refine HSI.out.mono ?_
        rintro e w10 ⟨rfl, hx10⟩
        have hq := HQ9.out.ext hx10
        have z0 := hq.g.x0; have z1 := hq.g.x1
        have hnz := nt (show ¬ ((25 : Int) = 0) by decide)
        have HEf := Lib.hid (hq.e w Hw2.out)
        clear hq hx10 HSI z0' z1'
        go_wp2_with fail
        go_ret
        exact ⟨rfl, HEf.out⟩
  subst hnk
  have t1 := nf' (show (n : Int) = (n : Int) from rfl)
  obtain ⟨P, hP⟩ : ∃ P, fstI (mkAt s) n 0 = P := ⟨_, rfl⟩
  have hDP : (e0, e1) = if P ≠ -1 then (20, P) else (0, 0) := by
    have h9 := HDd.out
    unfold rmF at h9
    rw [if_neg (by rw [Hls.out]; simp), Hls.out, hP] at h9
    exact h9.symm
  have HP := Lib.hid hP; have HDP := Lib.hid hDP
  clear hP hDP
  go_upto_region 14 with fail
  clear t1 z0 z1 zf0 zf1 v1
  go_wp2_with fail
  go_loopg [11] n (fun kk s11 wr => ∃ (i : Nat) (G0 G1 : Int), s11 = .int .i64 (i : Int) ∧ i ≤ n ∧ n - i = kk ∧ DsS w2 wr (nn : Int) gens s ao n cp a1 c1 bo n b1 H K B7 B9 G0 G1 e0 e1 ∧ ((G0 = 0 ∧ G1 = 0 ∧ fstI (mkAt s) (n - i) i = P) ∨ (G0 = 20 ∧ e0 = 20 ∧ e1 = G1)))
  case atStart => exact ⟨0, 0, 0, rfl, Nat.zero_le _, rfl, HQ8.out, Or.inl ⟨rfl, rfl, HP.out⟩⟩
  case round =>
    obtain ⟨i, G0, G1, rfl, hi, hkk, hq, hcase⟩ := hrel
    have HQr := Lib.hid hq; have Hkk := Lib.hid hkk
    have z0 := hq.g.x0
    rcases hcase with ⟨rfl, rfl, hf⟩ | ⟨rfl, rfl, rfl⟩
    rotate_left 1
    · -- a mark was none
      have hT : T10 = [] := by have := HT10.out; rw [if_neg (by decide)] at this; exact this.symm
      subst hT
      clear hi hkk hq
      by_cases hn0 : (i : Int) < (n : Int)
      · go_upto_region 19 with fail
        clear z0 hn0
        have hq := HQr.out
        have v0 := hq.c.x0; have v1 := hq.c.x1; have u0 := hq.d.x0; have u1 := hq.d.x1; have z0 := hq.g.x0; have z1 := hq.g.x1; have y0 := hq.f.x0; have y1 := hq.f.x1
        have HSD := Lib.hid (sameCode_any (nn : Int) gens a1 n c1 ao cp _ hq.hs1 hq.hs Hk6.out)
        have HQ := Lib.hid hq
        clear hq
        go_upto_region 19 with fail
        go_wp2_with fail
        refine HSD.out.mono ?_
        rintro e w9 ⟨rfl, hx9⟩
        have hq := HQ.out.ext hx9
        have z0' := hq.g.x0; have z1' := hq.g.x1
        have HSI := Lib.hid (sameInts_dec s s b1 n c1b bo n cb w9 hq.hi1 hq.hi Hn6.out)
        rw [decide_eq_true (rfl : s = s)] at HSI
        have HQ9 := Lib.hid hq
        clear hq hx9 HSD v0 v1 u0 u1 z0 z1 y0 y1
        go_wp2_with fail
        refine HSI.out.mono ?_
        rintro e w10 ⟨rfl, hx10⟩
        have hq := HQ9.out.ext hx10
        have z0 := hq.g.x0; have z1 := hq.g.x1
        have hnz := nt (show ¬ ((20 : Int) = 0) by decide)
        have HEf := Lib.hid (hq.e w Hw2.out)
        clear hq hx10 HSI z0' z1'
        go_wp2_with fail
        go_ret
        exact ⟨rfl, HEf.out⟩
      · go_upto_region 19 with fail
        clear z0 hn0
        have hq := HQr.out
        have v0 := hq.c.x0; have v1 := hq.c.x1; have u0 := hq.d.x0; have u1 := hq.d.x1; have z0 := hq.g.x0; have z1 := hq.g.x1; have y0 := hq.f.x0; have y1 := hq.f.x1
        have HSD := Lib.hid (sameCode_any (nn : Int) gens a1 n c1 ao cp _ hq.hs1 hq.hs Hk6.out)
        have HQ := Lib.hid hq
        clear hq
        go_upto_region 19 with fail
        go_wp2_with fail
        refine HSD.out.mono ?_
        rintro e w9 ⟨rfl, hx9⟩
        have hq := HQ.out.ext hx9
        have z0' := hq.g.x0; have z1' := hq.g.x1
        have HSI := Lib.hid (sameInts_dec s s b1 n c1b bo n cb w9 hq.hi1 hq.hi Hn6.out)
        rw [decide_eq_true (rfl : s = s)] at HSI
        have HQ9 := Lib.hid hq
        clear hq hx9 HSD v0 v1 u0 u1 z0 z1 y0 y1
        go_wp2_with fail
        refine HSI.out.mono ?_
        rintro e w10 ⟨rfl, hx10⟩
        have hq := HQ9.out.ext hx10
        have z0 := hq.g.x0; have z1 := hq.g.x1
        have hnz := nt (show ¬ ((20 : Int) = 0) by decide)
        have HEf := Lib.hid (hq.e w Hw2.out)
        clear hq hx10 HSI z0' z1'
        go_wp2_with fail
        go_ret
        exact ⟨rfl, HEf.out⟩
    have Hf := Lib.hid hf
    by_cases hin : i = n
    · -- all are marks
      have q1 : ¬ (i : Int) < (n : Int) := by omega
      have hPm : P = -1 := by have h8 := hf; rw [hin, Nat.sub_self] at h8; exact h8.symm
      have hE : e0 = 0 ∧ e1 = 0 := by
        have h9 := HDP.out
        rw [if_neg (by simp [hPm])] at h9
        exact ⟨congrArg Prod.fst h9, congrArg Prod.snd h9⟩
      obtain ⟨rfl, rfl⟩ := hE
      clear hi hkk hq hf hin hPm
      obtain ⟨hsl, hsb⟩ := rm_ok (s := s) (k := (n : Int)) (by rw [HDd.out])
      have hB := de_is (n := nn) (gens := gens) Hcc.out (s := s) (by have := Hls.out; have := Hlg.out; omega) hsb
      have hT : T10 = 43 :: (bst wtT (synQ gens s) (erR nn)).getD [] := by have h9 := HT10.out; rw [if_pos rfl, hB] at h9; exact h9.symm
      have HEr := Lib.hid (fun wx => Errors_any nn wx HN5.out.1)
      have hen := erR_len nn
      have hen6 : (erR nn).length ≤ 1024 := by
        rw [hen]
        have : 4 ^ nn ≤ 4 ^ 5 := Nat.pow_le_pow_right (by decide) HN5.out.1
        have h : (4 : Nat) ^ 5 = 1024 := by decide
        omega
      have Hlen := Lib.hid (fun (e : List UInt8) (he : e ∈ erR nn) => ((erR_let nn e).1 he).1)
      obtain ⟨es, hes⟩ : ∃ es, erR nn = es := ⟨_, rfl⟩
      rw [hes] at HEr hT hen6 Hlen
      obtain ⟨en, hen2⟩ : ∃ en, es.length = en := ⟨_, rfl⟩
      rw [hen2] at HEr hen6
      obtain ⟨BB, hBB⟩ : ∃ B, (bst wtT (synQ gens s) es).getD [] = B := ⟨_, rfl⟩
      rw [hBB] at hT
      subst hT
      have hBl : BB.length ≤ 5 := by
        rw [← hBB]
        cases hb : bst wtT (synQ gens s) es with
        | none => simp
        | some b =>
          have hsp := bst_spec wtT (synQ gens s) es
          rw [hb] at hsp
          have := Hlen.out b hsp.1
          have := HN5.out
          simp only [Option.getD_some]
          omega
      have HBB := Lib.hid hBB; have Hen := Lib.hid hen6; have HBl := Lib.hid hBl
      clear hsl hsb hB hen hes hen2 hBB hen6 hBl
      go_upto_region 19 with fail
      clear z0 q1
      have hq := HQr.out
      have v0 := hq.c.x0; have v1 := hq.c.x1; have u0 := hq.d.x0; have u1 := hq.d.x1; have z0 := hq.g.x0; have z1 := hq.g.x1; have y0 := hq.f.x0; have y1 := hq.f.x1
      have HSD := Lib.hid (sameCode_any (nn : Int) gens a1 n c1 ao cp _ hq.hs1 hq.hs Hk6.out)
      have HQ := Lib.hid hq
      clear hq
      go_wp2_with fail
      refine HSD.out.mono ?_
      rintro e w9 ⟨rfl, hx9⟩
      have hq := HQ.out.ext hx9
      have HSI := Lib.hid (sameInts_dec s s b1 n c1b bo n cb w9 hq.hi1 hq.hi Hn6.out)
      rw [decide_eq_true (rfl : s = s)] at HSI
      have HQ9 := Lib.hid hq
      clear hq hx9 HSD v0 v1 u0 u1 z0 z1 y0 y1
      go_wp2_with fail
      refine HSI.out.mono ?_
      rintro e w10 ⟨rfl, hx10⟩
      have HQ10 := Lib.hid (HQ9.out.ext hx10)
      have z0 := HQ10.out.g.x0; have v0 := HQ10.out.c.x0; have v1 := HQ10.out.c.x1
      have HDO := Lib.hid (fun (a11 : Option Addr) (c11 : Nat) (w11 : World) (E : Ext w10 w11) (hS : StrsAt w11 a11 en es) => DecodeOf_any (nn : Int) gens s es ao n cp bo n cb a11 en c11 w11 ((HQ10.out.ext E).hs) (by have := Hlg.out; have := Hzz.out; have := HN5.out; omega) nn (by have := HN5.out; omega) HN5.out.2 (fun T hT => (isP_let (Hzz.out.2.2.2 T hT)).1) ((HQ10.out.ext E).hi) hS (by have := Hen.out; omega) Hlen.out)
      rw [HBB.out] at HDO
      have hcat : (⟨#[43]⟩ : ByteArray) ++ ⟨BB.toArray⟩ = ⟨(43 :: BB).toArray⟩ := by rw [show (⟨#[43]⟩ : ByteArray) = ⟨([43] : List UInt8).toArray⟩ from rfl, str_append]; rfl
      have hs1 : ¬ 9223372036854775807 < 1 + BB.length := by have := HBl.out; omega
      have hs2 : ¬ 9223372036854775807 < BB.length + 1 := by have := HBl.out; omega
      clear hx10 HSI
      go_upto_region 23 with fail
      have HSj := Lib.hid (fun (w' : World) (hx : Ext w10 w') => (show w'.cell? ⟨H, 0, none⟩ = some (.int .i64 (nn : Int)) ∧ w'.cell? ⟨H, 1, none⟩ = some (.slice ao n cp) from ⟨cell_ext v0 hx, cell_ext v1 hx⟩))
      have Ew0 : Ext w10 w10.drew := Below.drew (Ext.refl _)
      clear v0 v1
      refine wp_region_K 9 (fun w' => w'.cell? ⟨H, 0, none⟩ = some (.int .i64 (nn : Int)) ∧ w'.cell? ⟨H, 1, none⟩ = some (.slice ao n cp)) (by kernel_rfl) ?_
      show anyK _ _ _ _ _ _ 10 #[false, false, false, false, false, false, false, false, false, false] _ _
      refine anyK_take (i := 0) (v := ?_) rfl (by kernel_rfl) (by kernel_rfl) (by kernel_rfl) (N := 10) (by kernel_rfl) (by kernel_rfl) (by kernel_rfl) (fun _ _ _ h => h) (Or.inl ⟨by rfl, ?_⟩) (HSj.out _ Ew0) ?_
      rotate_left 1
      · intro w hSw
        go_simp
        try with_reducible rfl
      show anyK _ _ _ _ _ _ _ _ (Act.put _ (some 136) _) _
      simp only [Act.put, List.setIfInBounds_toArray, List.set_cons_zero, List.set_cons_succ]
      refine anyK_take (i := 1) (v := ?_) rfl (by kernel_rfl) (by kernel_rfl) (by kernel_rfl) (N := 10) (by kernel_rfl) (by kernel_rfl) (by kernel_rfl) (fun _ _ _ h => h) (Or.inl ⟨by rfl, ?_⟩) (HSj.out _ Ew0) ?_
      rotate_left 1
      · intro w hSw
        go_simp
        try with_reducible rfl
      show anyK _ _ _ _ _ _ _ _ (Act.put _ (some 137) _) _
      simp only [Act.put, List.setIfInBounds_toArray, List.set_cons_zero, List.set_cons_succ]
      refine anyK_take (i := 2) (v := ?_) rfl (by kernel_rfl) (by kernel_rfl) (by kernel_rfl) (N := 10) (by kernel_rfl) (by kernel_rfl) (by kernel_rfl) (fun _ _ _ h => h) (Or.inl ⟨by rfl, ?_⟩) (HSj.out _ Ew0) ?_
      rotate_left 1
      · intro w hSw
        go_simp
        try with_reducible rfl
      show anyK _ _ _ _ _ _ _ _ (Act.put _ (some 138) _) _
      simp only [Act.put, List.setIfInBounds_toArray, List.set_cons_zero, List.set_cons_succ]
      refine anyK_take (i := 3) (v := ?_) rfl (by kernel_rfl) (by kernel_rfl) (by kernel_rfl) (N := 10) (by kernel_rfl) (by kernel_rfl) (by kernel_rfl) (fun _ _ _ h => h) (Or.inl ⟨by rfl, ?_⟩) (HSj.out _ Ew0) ?_
      rotate_left 1
      · intro w hSw
        go_simp
        try with_reducible rfl
      show anyK _ _ _ _ _ _ _ _ (Act.put _ (some 139) _) _
      simp only [Act.put, List.setIfInBounds_toArray, List.set_cons_zero, List.set_cons_succ]
      refine anyK_take (i := 4) (v := ?_) rfl (by kernel_rfl) (by kernel_rfl) (by kernel_rfl) (N := 10) (by kernel_rfl) (by kernel_rfl) (by kernel_rfl) (fun _ _ _ h => h) (Or.inl ⟨by rfl, ?_⟩) (HSj.out _ Ew0) ?_
      rotate_left 1
      · intro w hSw
        go_simp
        try with_reducible rfl
      show anyK _ _ _ _ _ _ _ _ (Act.put _ (some 140) _) _
      simp only [Act.put, List.setIfInBounds_toArray, List.set_cons_zero, List.set_cons_succ]
      refine anyK_one (i := 5) (by kernel_rfl) rfl (fun Kk hKk => ?_)
      go_simp
      (go_at_call 20; refine (HEr.out _).mono ?_; rintro e w11 ⟨⟨v11, rfl, hr11⟩, hx⟩)
      have E11 : Ext w10 w11 := Ew0.trans hx
      obtain ⟨a11, c11, rfl, _, _, hS11⟩ := strs_of_own hr11
      go_wp2_with fail
      refine hKk.out _ _ (fun _ => HSj.out _ E11) ?_
      clear hKk Kk hx
      simp only [List.setIfInBounds_toArray, List.set_cons_zero, List.set_cons_succ]
      refine anyK_one (i := 6) (by kernel_rfl) rfl (fun Kk hKk => ?_)
      go_simp
      (go_at_call 19; refine (HDO.out a11 c11 w11 E11 hS11).mono ?_; rintro e w12 ⟨rfl, hx⟩)
      have E12 : Ext w10 w12 := E11.trans hx
      go_wp2_with fail
      refine hKk.out _ _ (fun _ => HSj.out _ E12) ?_
      clear hKk Kk hx
      simp only [List.setIfInBounds_toArray, List.set_cons_zero, List.set_cons_succ]
      refine anyK_take (i := 7) (v := ?_) rfl (by kernel_rfl) (by kernel_rfl) (by kernel_rfl) (N := 10) (by kernel_rfl) (by kernel_rfl) (by kernel_rfl) (fun _ _ _ h => h) (Or.inl ⟨by rfl, ?_⟩) (HSj.out _ E12) ?_
      rotate_left 1
      · intro w hSw
        go_simp
        try with_reducible rfl
      show anyK _ _ _ _ _ _ _ _ (Act.put _ (some 143) _) _
      simp only [Act.put, List.setIfInBounds_toArray, List.set_cons_zero, List.set_cons_succ]
      refine anyK_take (i := 8) (v := ?_) rfl (by kernel_rfl) (by kernel_rfl) (by kernel_rfl) (N := 10) (by kernel_rfl) (by kernel_rfl) (by kernel_rfl) (fun _ _ _ h => h) (Or.inl ⟨by rfl, ?_⟩) (HSj.out _ E12) ?_
      rotate_left 1
      · intro w hSw
        go_simp
        try with_reducible rfl
      show anyK _ _ _ _ _ _ _ _ (Act.put _ (some 144) _) _
      simp only [Act.put, List.setIfInBounds_toArray, List.set_cons_zero, List.set_cons_succ]
      refine anyK_one (i := 9) (by kernel_rfl) rfl (fun Kk hKk => ?_)
      go_wp2_with fail
      refine hKk.out _ _ (fun h => Bool.noConfusion (show true = false from h)) ?_
      clear hKk Kk
      simp only [List.setIfInBounds_toArray, List.set_cons_zero, List.set_cons_succ]
      refine anyK_done (by kernel_rfl) ?_ _
      have HEf := Lib.hid (HQ10.out.e w Hw2.out |>.trans E12)
      go_wp2_with fail
      go_ret
      exact ⟨rfl, HEf.out⟩
    have hlt : i < n := by omega
    have q1 : (i : Int) < (n : Int) := by omega
    have q0 : (0 : Int) ≤ (i : Int) := by omega
    have wk : IntKind.i64.wrap ((i : Int) + 1) = ((i + 1 : Nat) : Int) := by rw [IntKind.wrap_i64]; have := Hn6.out; omega
    obtain ⟨x, hx⟩ : ∃ x, s[i]? = some x := ⟨_, List.getElem?_eq_getElem (by have := Hls.out; omega)⟩
    have hIr := hq.hi
    obtain ⟨bb, ob, rfl, _, hcs⟩ := hIr.at (by omega)
    have c0 := hcs i hlt
    have hgd : s.getD i 0 = x := by rw [List.getD_eq_getElem?_getD, hx]; rfl
    rw [hgd] at c0
    have hsu : n - i = (n - (i + 1)) + 1 := by omega
    rw [hsu] at Hf
    have Hgd := Lib.hid hgd; have Hlt := Lib.hid hlt
    clear hi hkk hf hin hlt hx hcs hgd hsu hIr
    by_cases hx0 : x = 0
    · subst hx0
      have HZ := Lib.hid (show fstI (mkAt s) (n - (i + 1)) (i + 1) = P by have h8 := Hf.out; rw [fstI_no (by unfold mkAt; rw [Hgd.out]; rfl)] at h8; exact h8)
      clear hq
      go_wp2_with fail
      go_roundg (n - (i + 1))
      case measure => have := Hkk.out; have := Hlt.out; omega
      case rel => exact ⟨i + 1, 0, 0, rfl, Hlt.out, rfl, HQr.out, Or.inl ⟨rfl, rfl, HZ.out⟩⟩
    by_cases hx1 : x = 1
    · subst hx1
      have HZ := Lib.hid (show fstI (mkAt s) (n - (i + 1)) (i + 1) = P by have h8 := Hf.out; rw [fstI_no (by unfold mkAt; rw [Hgd.out]; rfl)] at h8; exact h8)
      clear hq
      go_wp2_with fail
      go_roundg (n - (i + 1))
      case measure => have := Hkk.out; have := Hlt.out; omega
      case rel => exact ⟨i + 1, 0, 0, rfl, Hlt.out, rfl, HQr.out, Or.inl ⟨rfl, rfl, HZ.out⟩⟩
    have n0 := nt hx0; have n1 := nt hx1
    have hPi : P = (i : Int) := by
      have h8 := Hf.out
      rw [fstI_yes (by unfold mkAt; rw [Hgd.out]; exact decide_eq_true ⟨hx0, hx1⟩)] at h8
      exact h8.symm
    have HE := Lib.hid (show e0 = 20 ∧ e1 = (i : Int) by
      have h9 := HDP.out
      rw [if_pos (by rw [hPi]; omega), hPi] at h9
      exact ⟨congrArg Prod.fst h9, congrArg Prod.snd h9⟩)
    have z1 := hq.g.x1; have zf0 := hq.g.f 0; have zf1 := hq.g.f 1
    have HQn := Lib.hid (hq.put7 20 (i : Int))
    clear hq hx0 hx1 hPi
    go_wp2_with fail
    go_roundg (n - (i + 1))
    case measure => have := Hkk.out; have := Hlt.out; omega
    case rel => exact ⟨i + 1, 20, (i : Int), rfl, Hlt.out, rfl, HQn.out, Or.inr ⟨rfl, HE.out.1, HE.out.2⟩⟩
end Go.Proofs.YtfoncakadficlaaDoor
namespace Go.Proofs.YtfoncakadficlaaDoor
open Go.RowKit Go.ChangeShapes Go.WideShapes Go.Deep

theorem addr_at (b o t : Nat) : (⟨b, o, none⟩ : Addr).add t = ⟨b, o + t, none⟩ := by
  unfold Addr.add
  by_cases h : t = 0 <;> simp [h]

section
variable {H : Type} {enc : TypeId × Value → H} {W : World}

theorem bytes_int : Tryd.prog.bytesOf 3 = 8 := by kernel_rfl
theorem cells_int : Tryd.prog.cellsOf 3 = 1 := by kernel_rfl
theorem open_ints {fuel : Nat} {cs : List Value} {x : DataW H × List MemPlace} (h : DataW.trod enc Tryd.prog W 0 (fun _ => true) true fuel 31 cs = some x) (hz : ∀ k ∈ x.1.weights Tryd.prog 31, k ≤ reachBytes) :
    ∃ (ao : Option Addr) (n cp : Nat) (l : List Int), cs = [.slice ao n cp] ∧ n ≤ cp ∧ cp ≤ 9223372036854775807 ∧ IntsAt W ao n l ∧ l.length * 8 ≤ 140737488355328 := by
  rcases open_slice1 Tryd.underlying31 cells_int h with ⟨rfl, rfl⟩ | ⟨a, len, cap, m, n, V, D, Pl, rfl, _, hl, hm, hmm, rfl, hx⟩
  · exact ⟨none, 0, 0, [], rfl, by omega, by omega, ⟨rfl, Or.inl rfl⟩, by simp⟩
  · have hmc : m = cap := by simpa using hmm
    subst hmc
    obtain ⟨F, hF⟩ := choose_lt (α := Int) (n := m) (p := fun i z => W.cell? (a.add i) = some (.int .i64 z)) (fun i hi => by
      obtain ⟨h1, h2⟩ := hx i hi
      obtain ⟨z, e, _⟩ := DataW.trod_int Tryd.underlying3 h2
      injection e with e
      exact ⟨z, by rw [h1, e]⟩)
    refine ⟨some a, len, m, (List.range len).map F, rfl, hl, hm, ⟨by simp, ?_⟩, ?_⟩
    · by_cases h0 : len = 0
      · exact Or.inl h0
      · obtain ⟨b, o, spot⟩ := a
        have h1 := hF 0 (by omega)
        have hs : spot = none := by simpa [Addr.add] using World.cell?_spot h1
        subst hs
        refine Or.inr ⟨b, o, rfl, World.block_lt_of_cell? W _ h1, fun t ht => ?_⟩
        have := hF t (by omega)
        rw [addr_at] at this
        simpa [List.getD_eq_getElem?_getD, ht] using this
    · have := hz ((len + (m - len)) * Tryd.prog.bytesOf 3) (by simp [DataW.weights, Tryd.underlying31])
      rw [bytes_int] at this
      have hr : reachBytes ≤ 140737488355328 := by decide
      rw [List.length_map, List.length_range]
      omega

end

end Go.Proofs.YtfoncakadficlaaDoor
namespace Go.Proofs.YtfoncakadficlaaDoor
open Go.RowKit Go.ChangeShapes Go.WideShapes Go.Deep

section
variable {H : Type} {enc : TypeId × Value → H} {W : World}
set_option maxRecDepth 100000 in
theorem open_list {v : Value} {d : DataW H} {p : List MemPlace} {base : Nat} (hok : Value.okWide Tryd.prog W .any base 31 v) (h : DataW.Trod enc Tryd.prog W 0 (fun _ => true) true 31 v d p) (hz : ∀ k ∈ d.weights Tryd.prog 31, k ≤ reachBytes) :
    ∃ (ao : Option Addr) (n cp : Nat) (l : List Int), v = .slice ao n cp ∧ n ≤ cp ∧ cp ≤ 9223372036854775807 ∧ IntsAt W ao n l ∧ n * 8 ≤ 140737488355328 := by
  obtain ⟨fuel, h⟩ := h
  have hv : ∃ a n c, v = .slice a n c := by
    cases v <;> simp [Value.okWide, Cell.okWide, Cell.ok, Tryd.underlying31] at hok
    exact ⟨_, _, _, rfl⟩
  obtain ⟨a, n, c, rfl⟩ := hv
  obtain ⟨ao, n', cp, l, e, h1, h2, h3, h4⟩ := open_ints h hz
  have hc : (Value.slice a n c).cells.toList = [.slice a n c] := rfl
  rw [hc] at e
  injection e with e
  injection e with e1 e2 e3
  subst e1; subst e2; subst e3
  exact ⟨a, n, c, l, rfl, h1, h2, h3, by rw [← h3.1]; exact h4⟩
end

end Go.Proofs.YtfoncakadficlaaDoor
namespace Go.Proofs.YtfoncakadficlaaDoor
open Go.RowKit Go.ChangeShapes Go.WideShapes Go.Deep

section
variable {H : Type} {enc : TypeId × Value → H} {W : World}
set_option maxRecDepth 100000 in
theorem open_list_n {v : Value} {d : DataW H} {p : List MemPlace} {base : Nat} (hok : Value.okWide Tryd.prog W .any base 31 v) (h : DataW.Trod enc Tryd.prog W 0 (fun _ => true) true 31 v d p) (hz : ∀ k ∈ d.weights Tryd.prog 31, k ≤ reachBytes) :
    ∃ (ao : Option Addr) (n cp : Nat) (l : List Int), v = .slice ao n cp ∧ n ≤ cp ∧ cp ≤ 9223372036854775807 ∧ IntsAt W ao n l ∧ n * 8 ≤ 140737488355328 ∧ (ao = none → cp = 0) := by
  obtain ⟨ao, n, cp, l, rfl, h1, h2, h3, h4⟩ := open_list hok h hz
  refine ⟨ao, n, cp, l, rfl, h1, h2, h3, h4, ?_⟩
  obtain ⟨fuel, h⟩ := h
  have hc : (Value.slice ao n cp).cells.toList = [.slice ao n cp] := rfl
  rcases open_slice Tryd.underlying31 h with ⟨e2, _⟩ | ⟨a, len, cap, m, n', D, Pl, e2, _⟩
  · rw [hc] at e2
    injection e2 with e2
    injection e2 with _ _ e3
    exact fun _ => e3
  · rw [hc] at e2
    injection e2 with e2
    injection e2 with e1 _ _
    exact fun e => by rw [e] at e1; cases e1
end
end Go.Proofs.YtfoncakadficlaaDoor
namespace Go.Proofs.YtfoncakadficlaaDoor
open Go.RowKit Go.ChangeShapes Go.WideShapes

/-- What lay there is as it was: what is asked behind the call. -/
theorem post_kept {H : Type} {enc : TypeId × Value → H} {P : Program} {f : Func} {s : ChangeSpec} {apart fresh handsOn again : Bool} {W W' : World} {args : Array Value} {v : Value} {ds gs : List (DataW H)} {ps : List MemPlace}
    (hW : DataW.Whole enc P f.params.toList s.vars apart W args.toList ds gs ps)
    (hres : ∀ (b : Nat) (sp : Nat → Bool) (hd : Bool), DataW.TrodAll enc P W' b sp hd f.resultTypes.toList (v.resultList f.resultTypes.size) (s.fn H (ds ++ gs)).results [])
    (hargs : ∀ sp : Nat → Bool, (∀ x ∈ ps, sp x.block = true) → DataW.TrodAll enc P W' 0 sp true f.params.toList args.toList (s.fn H (ds ++ gs)).args ps)
    (hvars : ∀ sp : Nat → Bool, DataW.TrodVars enc P W' sp s.vars (s.fn H (ds ++ gs)).vars [])
    (hb : Ext W W')
    (hok : ∀ (j : Nat) (t : TypeId) (r : Value), f.resultTypes[j]? = some t → (v.resultList f.resultTypes.size)[j]? = some r → Value.okWide P W' .any 0 t r) :
    s.post enc P f apart fresh handsOn again W args v W' := by
  have hlt := hW.lt
  have hold : ∀ x ∈ ps, decide (x.block < W.heap.size) = true := fun x hx => by simpa using hlt x hx
  have hall : ∀ x ∈ ps, (fun _ : Nat => true) x.block = true := fun _ _ => rfl
  have hn : W.noneFrozen ps ∧ (apart = true → ps.Nodup) := by
    obtain ⟨_, _, _, _, rfl, h1, h2⟩ := hW
    exact ⟨h1, h2⟩
  refine ⟨ds, gs, ps, [], ps, [], hW, hres _ _ _, hargs _ hold, hvars _, Below.frame hb _, fun _ => ?_⟩
  refine ⟨hok, _, _, ([] ++ ps) ++ [], ⟨[] ++ ps, [], trodAll_append (hargs (fun _ => true) hall) (hres _ _ _), hvars _, rfl, ?_, ?_⟩, ?_⟩
  · intro b off hp
    have hp' : MemPlace.cell b off ∈ ps := by simpa using hp
    rw [Below.frozen hb (p := ⟨b, off, none⟩) (hlt _ hp')]
    exact hn.1 b off hp'
  · intro ha
    simpa using hn.2 ha
  · intro x hx _
    simpa using hx

end Go.Proofs.YtfoncakadficlaaDoor
namespace Go.Proofs.YtfoncakadficlaaDoor
open Go.RowKit Go.ChangeShapes Go.WideShapes Go.Deep

section
variable {H : Type} {enc : TypeId × Value → H} {W : World}
theorem bytes_strC : Tryd.prog.bytesOf 9 = 16 := by kernel_rfl
theorem cells_strC : Tryd.prog.cellsOf 9 = 1 := by kernel_rfl
theorem cells_co : Tryd.prog.cellsOf 24 = 2 := by kernel_rfl

set_option maxRecDepth 100000 in
theorem open_code {v : Value} {d : DataW H} {p : List MemPlace} {base : Nat} (hok : Value.okWide Tryd.prog W .any base 24 v) (h : DataW.Trod enc Tryd.prog W 0 (fun _ => true) true 24 v d p) (hz : ∀ k ∈ d.weights Tryd.prog 24, k ≤ reachBytes) :
    ∃ (N : Int) (gens : List (List UInt8)) (ao : Option Addr) (n cp : Nat), v = .agg #[.int .i64 N, .slice ao n cp] ∧ StrsAt W ao n gens ∧ (∀ T ∈ gens, T.length ≤ 9223372036854775807) ∧ n * 16 ≤ 140737488355328 ∧ (ao = none → cp = 0) ∧ N ≤ 9223372036854775807 := by
  obtain ⟨fuel, h⟩ := h
  have hv : ∃ cs : Array Value, v = .agg cs := by
    unfold Value.okWide at hok
    rw [Tryd.underlying24] at hok
    obtain ⟨cs, e, _⟩ := hok
    exact ⟨cs, e⟩
  obtain ⟨cs, rfl⟩ := hv
  obtain ⟨xs, n, _, hx0, hl, hlen, hf⟩ := DataW.trod_struct Tryd.underlying24 h
  obtain ⟨cl⟩ := cs
  have hcl : (Value.agg ⟨cl⟩).cells.toList = cl := rfl
  rw [hcl] at hl hf
  rw [cells_co] at hl
  match xs, hlen, cl, hl with
  | [y0, y1], _, [v0, v1], _ =>
    injection hx0 with hd hp
    subst hd
    have g0 := hf 0 _ rfl
    have g1 := hf 1 _ rfl
    simp only [List.getElem?_cons_zero, List.getElem?_cons_succ] at g0 g1
    obtain ⟨N, e0, _, hwf⟩ := DataW.trod_int Tryd.underlying3 g0
    injection e0 with e0
    have hN : N ≤ 9223372036854775807 := by
      have h1 : (decide (IntKind.i64.min ≤ N) && decide (N ≤ IntKind.i64.max)) = true := hwf
      rw [Bool.and_eq_true, decide_eq_true_eq, decide_eq_true_eq] at h1
      exact h1.2
    have hz2 : ∀ k ∈ y1.1.weights Tryd.prog 22, k ≤ reachBytes := fun k hk => hz k (by simp [DataW.weights, Tryd.underlying24, DataW.weightsEach, hk])
    rcases open_slice1 Tryd.underlying22 cells_strC g1 with ⟨e2, _⟩ | ⟨a, len, cap, m, n', V, D, Pl, e2, _, hl2, hm2, hmm, hy2, hx⟩
    · injection e2 with e2
      exact ⟨N, [], none, 0, 0, by rw [e0, e2], ⟨rfl, Or.inl rfl⟩, fun T hT => (by cases hT), by omega, fun _ => rfl, hN⟩
    · injection e2 with e2
      have hmc : m = cap := by simpa using hmm
      subst hmc
      subst hy2
      have hr : reachBytes ≤ 140737488355328 := by decide
      have hb := hz2 ((len + (m - len)) * Tryd.prog.bytesOf 9) (by simp [DataW.weights, Tryd.underlying22])
      rw [bytes_strC] at hb
      obtain ⟨F, hF⟩ := choose_lt (α := List UInt8) (n := m) (p := fun i z => W.cell? (a.add i) = some (.string ⟨z.toArray⟩) ∧ z.length ≤ 9223372036854775807) (fun i hi => by
        obtain ⟨h1, h2⟩ := hx i hi
        obtain ⟨s, e, _, hs⟩ := DataW.trod_string Tryd.underlying9 h2
        injection e with e
        refine ⟨s.data.toList, ?_, ?_⟩
        · rw [h1, e]
        · have hm : maxLen ≤ 9223372036854775807 := by unfold maxLen; decide
          have h8 : s.data.toList.length = s.size := by rw [Array.length_toList]; rfl
          rw [h8]
          exact Nat.le_trans hs hm)
      obtain ⟨b, o, spot⟩ := a
      refine ⟨N, (List.range len).map F, some ⟨b, o, spot⟩, len, m, by rw [e0, e2], ⟨by simp, ?_⟩, fun T hT => ?_, by omega, fun e => (by cases e), hN⟩
      · by_cases h0 : len = 0
        · exact Or.inl h0
        · have h1 := (hF 0 (by omega)).1
          have hs : spot = none := by simpa [Addr.add] using World.cell?_spot h1
          subst hs
          refine Or.inr ⟨b, o, rfl, World.block_lt_of_cell? W _ h1, fun t ht => ?_⟩
          have := (hF t (by omega)).1
          rw [addr_at] at this
          rw [this, List.getD_eq_getElem?_getD, List.getElem?_map, List.getElem?_range ht]
          rfl
      · obtain ⟨i, hi, rfl⟩ := List.mem_map.1 hT
        exact (hF i (by have := List.mem_range.1 hi; omega)).2
end

set_option maxRecDepth 100000 in
theorem letter_row {H : Type} {enc : TypeId × Value → H} {W : World} {base : Nat} {sp : Nat → Bool} {held : Bool} {fuel : Nat} {cs : List Value} {a b : Int} {c : Bool} {p : List MemPlace}
    (h : DataW.trod enc Tryd.prog W base sp held fuel 67 cs = some (.agg [.lit (.int .u16 a), .lit (.int .u16 b), .lit (.bool c)], p)) :
    cs = [.int .u16 a, .int .u16 b, .bool c] := by
  obtain ⟨xs, n, _, hx, hl, hlen, hf⟩ := DataW.trod_struct Tryd.underlying67 h
  have hc : Tryd.prog.cellsOf 67 = 3 := by kernel_rfl
  rw [hc] at hl
  match xs, hlen, cs, hl with
  | [y0, y1, y2], _, [v0, v1, v2], _ =>
    have g0 := hf 0 _ rfl
    have g1 := hf 1 _ rfl
    have g2 := hf 2 _ rfl
    simp only [List.getElem?_cons_zero, List.getElem?_cons_succ] at g0 g1 g2
    obtain ⟨b0, e0, z0, _⟩ := DataW.trod_int Tryd.underlying65 g0
    obtain ⟨b1, e1, z1, _⟩ := DataW.trod_int Tryd.underlying65 g1
    obtain ⟨b2, e2, z2⟩ := DataW.trod_bool Tryd.underlying4 g2
    subst z0; subst z1; subst z2
    injection hx with hd _
    simp only [List.map_cons, List.map_nil, DataW.agg.injEq, List.cons.injEq, DataW.lit.injEq, Lit.int.injEq, Lit.bool.injEq, true_and, and_true] at hd
    obtain ⟨rfl, rfl, rfl⟩ := hd
    injection e0 with e0; injection e1 with e1; injection e2 with e2
    rw [e0, e1, e2]

set_option maxRecDepth 100000 in
theorem ltl_of_laid {W : World} (h : laidMet Tryd.prog [("qloom/code.letters", Rows.laid_qloom_code_letters)] W) : LtL W := by
  obtain ⟨ps, ⟨g', t', cs, fuel, p, q, hg', ht', hvar, hd, _, hps⟩, _, hfz⟩ := h
  obtain rfl := Option.some.inj ((show Tryd.prog.globalNamed "qloom/code.letters" = some 0 by kernel_rfl).symm.trans hg')
  obtain rfl := Option.some.inj ((show (Tryd.prog.globals[0]?).map (·.type) = some 120 by kernel_rfl).symm.trans ht')
  have hblk : ∃ t, W.heap[(0 : Nat)]? = some (.cells cs t (0, 0)) := by
    have hv := hvar
    simp only [World.var?, hg', Option.bind_some] at hv
    split at hv
    · rename_i c t f hc
      obtain rfl := Option.some.inj hv
      obtain ⟨xs, m, _, hx, hl, hlen, _⟩ := DataW.trod_array Tryd.underlying120 hd
      have hc9 : Tryd.prog.cellsOf 120 = 9 := by kernel_rfl
      rw [hc9] at hl
      have hs : c.size = 9 := by simpa using hl
      obtain ⟨⟨c', t', h'⟩, _⟩ := hfz 0 0 (by
        rw [hps, hs]
        refine List.mem_append_left _ (List.mem_append_left _ ?_)
        simp [MemPlace.row])
      rw [hc] at h'
      injection h' with h'
      injection h' with h1 h2 h3
      exact ⟨t, by rw [hc, h3]⟩
    · cases hv
  obtain ⟨t, ht⟩ := hblk
  obtain ⟨xs, m, _, hx, hl, hlen, hf⟩ := DataW.trod_array Tryd.underlying120 hd
  have hc9 : Tryd.prog.cellsOf 120 = 9 := by kernel_rfl
  have hc3 : Tryd.prog.cellsOf 67 = 3 := by kernel_rfl
  rw [hc9] at hl
  rw [hc3] at hf
  match xs, hlen with
  | [y0, y1, y2], _ =>
    injection hx with hx _
    unfold Rows.laid_qloom_code_letters at hx
    simp only [List.map_cons, List.map_nil, DataW.agg.injEq, List.cons.injEq, and_true] at hx
    obtain ⟨x0, x1, x2⟩ := hx
    have key : ∀ (k : Nat) (y : DataW Unit × List MemPlace) (a b : Int) (c : Bool), k < 3 → [y0, y1, y2][k]? = some y → .agg [.lit (.int .u16 a), .lit (.int .u16 b), .lit (.bool c)] = y.1 → (cs.toList.drop (k * 3)).take 3 = [.int .u16 a, .int .u16 b, .bool c] := by
      intro k y a b c hk hy he
      have h1 := hf k hk
      rw [hy] at h1
      obtain ⟨yd, yp⟩ := y
      simp only at he
      subst he
      exact letter_row h1
    have k0 := key 0 y0 _ _ _ (by omega) rfl x0
    have k1 := key 1 y1 _ _ _ (by omega) rfl x1
    have k2 := key 2 y2 _ _ _ (by omega) rfl x2
    refine ⟨t, ?_⟩
    rw [ht]
    congr 2
    apply Array.toList_inj.1
    have e : cs.toList = (cs.toList.drop (0 * 3)).take 3 ++ ((cs.toList.drop (1 * 3)).take 3 ++ (cs.toList.drop (2 * 3)).take 3) := by
      apply List.ext_getElem?
      intro i
      have hl9 : cs.toList.length = 9 := hl
      simp only [List.getElem?_append, List.getElem?_take, List.getElem?_drop, List.length_take, List.length_drop, hl9]
      by_cases h3 : i < 3
      · simp [h3]
      · by_cases h6 : i < 6
        · have : i - 3 < 3 := by omega
          simp [h3, this]
          congr 1; omega
        · by_cases h9 : i < 9
          · have a1 : ¬ i - 3 < 3 := by omega
            have a2 : i - 3 - 3 < 3 := by omega
            simp [h3, a1, a2]
            congr 1; omega
          · have a1 : ¬ i - 3 < 3 := by omega
            have a2 : ¬ i - 3 - 3 < 3 := by omega
            simp [h3, a1, a2]
            have : cs.size = 9 := by simpa using hl9
            omega
    rw [e, k0, k1, k2]
    rfl
end Go.Proofs.YtfoncakadficlaaDoor
