/-
  RouteKeeps' walk.
-/
import Derived.Test.YtlmfhopifggeaaaDoorProg
import Derived.Test.YtlmfhopifggeaaaDoorRows
import Derived.BigQuiet
import Derived.Deep.AppendLies
import Derived.Deep.Cut
import Derived.Deep.CutRange
import Derived.Deep.LoopGhost
import Derived.Deep.MidRow
import Derived.Deep.QuietTactic
import Derived.Deep.RegionHeld3
import Derived.Defers
import Derived.Ground.Names2Prog
import Derived.Ground.SlgnProg
import Derived.Laws.AppendOwnNone
import Derived.Laws.Bits64b
import Derived.Laws.Concat
import Derived.Laws.CopyOwn
import Derived.Laws.IdiomCopy
import Derived.Laws.IdiomStrings
import Derived.Laws.ResultCell
import Derived.Laws.Rows
import Derived.Lib.AppendIntMem
import Derived.Lib.AppendStr
import Derived.Lib.AppendZeros
import Derived.Lib.AppendZerosOnto
import Derived.Lib.BitFns
import Derived.Lib.Hide
import Derived.Lib.ItoaMem
import Derived.Lib.ItoaNum
import Derived.Lib.Strings
import Derived.Lib.TrailingZeros
import Derived.LoopIn
import Derived.LoopNIn
import Derived.Maps.AppendAt
import Derived.OrdersHeld
import Derived.OrdersIn
import Derived.OwnWalk
import Derived.OwnWalkIn
import Derived.ProofKit
import Derived.RangeFuncBound
import Derived.RangeFuncCalls
import Derived.RangeFuncFrom
import Derived.RangeFuncLeaves
import Derived.Recover
import Derived.RegionTactic
import Derived.Shelf.Abstract
import Derived.Shelf.Slices.Clone
import Derived.Shelf.SlicesE.Clone
import Derived.Shelf.Spec.TrailingZeros
import Derived.TacticsInMore
import Derived.WalkKit
import Derived.WalkLawsBesides
import Derived.WalkSpells
import Derived.Test.YtlmfhopifggeaaaDoorS00Mem
import Derived.Test.YtlmfhopifggeaaaDoorShelf
import Derived.Test.YtlmfhopifggeaaaDoorS02ZBq
import Derived.Test.YtlmfhopifggeaaaDoorS03ZKq
import Derived.Test.YtlmfhopifggeaaaDoorS04Udq
import Derived.Test.YtlmfhopifggeaaaDoorS05Wf
import Derived.Test.YtlmfhopifggeaaaDoorS06Xfq
import Derived.Test.YtlmfhopifggeaaaDoorS07Cn
import Derived.Test.YtlmfhopifggeaaaDoorS08Cj
import Derived.Test.YtlmfhopifggeaaaDoorS09Mb
import Derived.Test.YtlmfhopifggeaaaDoorS10Mf
import Derived.Test.YtlmfhopifggeaaaDoorS11Mh
import Derived.Test.YtlmfhopifggeaaaDoorS12Mm
import Derived.Test.YtlmfhopifggeaaaDoorS13Ms
import Derived.Test.YtlmfhopifggeaaaDoorS14Pi
import Derived.Test.YtlmfhopifggeaaaDoorS15Pk
import Derived.Test.YtlmfhopifggeaaaDoorS16Pj
import Derived.Test.YtlmfhopifggeaaaDoorS17Mv
import Derived.Test.YtlmfhopifggeaaaDoorS18Op
namespace Go.Proofs.YtlmfhopifggeaaaDoor
open Go.RowKit

theorem row_texts {w : World} {base n : Nat} {t : TypeId} {v : Value} {s : Nat → Nm} (h : w.ownsRow base t 1 v n (txV s n)) (hn : 0 < n) : ∃ g cap, v = .slice (some ⟨g, 0, none⟩) n cap ∧ ∀ i, i < n → w.cell? ⟨g, 0 + i, none⟩ = some (.string ⟨(rtx (nmF (s i))).toArray⟩) := by
  rcases h.2 with ⟨_, h0⟩ | ⟨g, cap, cur, rfl, _, hg, hnc, hcm, _, htk⟩
  · omega
  · refine ⟨g, cap, rfl, fun i hi => ?_⟩
    rw [cell_of_row w g (0 + i) cur _ (0, 0) hg, Nat.zero_add]
    have h1 : (txV s n)[i]? = cur.toList[i]? := by
      rw [← htk, List.getElem?_take, if_pos (by omega)]
    rw [← Array.getElem?_toList, ← h1]
    exact txV_get s hi

set_option maxRecDepth 100000 in
set_option maxHeartbeats 16000000 in
theorem keeps_walk (c : Gci) (ao : Option Addr) (n cp : Nat) (N : Int) (ls : List Lnk) (bo : Option Addr) (m cq : Nat) (x : Int) (ta : Option Addr) (tn tc : Nat) (want : List Int) (w : World) (h : OpsAt w ao n c.ops) (hn : n ≤ cp) (hcp : cp ≤ 9223372036854775807) (hbn : n * 80 ≤ 140737488355328) (hbl : ∀ g ∈ c.ops, g.ctl.length * 8 ≤ 140737488355328 ∧ g.cnd.length * 8 ≤ 140737488355328)
    (hd : LnkAt w bo m ls) (hmq : m ≤ cq) (hcq : cq ≤ 9223372036854775807) (hbm : m * 16 ≤ 140737488355328) (hnil : bo = none → cq = 0) (hTp : IntsAt w ta tn want) (hS : Shp w) (hT : BruM w) :
    Calls Tryd.prog 5 #[.agg #[.int .i64 c.qubits, .int .i64 c.bits, .slice ao n cp], .agg #[.int .i64 N, .slice bo m cq], .int .i64 x, .slice ta tn tc] w fun e w' => e = .returned (.bool true) ∧ Ext w w' := by
  have hm6 : m ≤ 9223372036854775806 := by omega
  obtain ⟨H, hH⟩ : ∃ H, w.heap.size = H := ⟨_, rfl⟩
  obtain ⟨qb, bi, ops⟩ := c
  simp only at h hbl ⊢
  obtain ⟨W0, hW0⟩ : ∃ W0, (w.alloc (.cells #[.int .i64 qb, .int .i64 bi, .slice ao n cp] 34)).alloc (.cells #[.int .i64 N, .slice bo m cq] 24) = W0 := ⟨_, rfl⟩
  have E0 : Ext w W0 := by rw [← hW0]; exact (ext_al w _).trans (ext_al _ _)
  have bC : CiB W0 H qb bi ao n cp := by rw [← hW0, ← hH]; exact CiB.ext ⟨heap_alloc_new w _⟩ (ext_al _ _)
  have bD : DvB W0 (H + 1) N bo m cq := ⟨by
    have := heap_alloc_new (w.alloc (.cells #[.int .i64 qb, .int .i64 bi, .slice ao n cp] 34)) (.cells #[.int .i64 N, .slice bo m cq] 24)
    rw [← hW0, ← hH]
    simpa using this⟩
  have h0 := h.ext E0; have hd0 := hd.ext E0; have hS0 := hS.ext E0; have hT0 := bruM_ext hT E0
  have HCp := Lib.hid (fun (wx : World) (hx : Ext W0 wx) => CopyCircuit_N ⟨qb, bi, ops⟩ ao n cp wx (h0.ext hx) hbn hbl)
  have HCd := Lib.hid (fun (wx : World) (hx : Ext W0 wx) => copyDevice_any N ls bo m cq wx (hd0.ext hx) hbm hnil)
  have HFit := Lib.hid (fun (wx : World) (hx : Ext W0 wx) (a1 : Option Addr) (c1 : Nat) (b1 : Option Addr) (e1 : Nat) (k1 : OpsAt wx a1 n ops) (k2 : n ≤ c1) (k3 : c1 ≤ 9223372036854775807) (k4 : LnkAt wx b1 m ls) => Fit_any ⟨qb, bi, ops⟩ a1 n c1 N ls b1 m e1 wx k1 k2 k3 k4 hm6 (hS0.ext hx) (bruM_ext hT0 hx))
  obtain ⟨F, hF⟩ : ∃ F, fitF ⟨qb, bi, ops⟩ N ls = F := ⟨_, rfl⟩
  obtain ⟨F0, F1⟩ := F
  unfold FitP at HFit
  rw [hF] at HFit
  simp only at HFit
  have HF := Lib.hid hF
  have HE0 := Lib.hid E0; have HC := Lib.hid bC; have HD := Lib.hid bD; have HW0 := Lib.hid hW0; have HH := Lib.hid hH; have Hh := Lib.hid h0; have Hd := Lib.hid hd0; have HS := Lib.hid hS0; have HT := Lib.hid hT0; have Hm6 := Lib.hid hm6; have Hn := Lib.hid (And.intro hn hcp); have Hmq := Lib.hid (And.intro hmq hcq); have HTp := Lib.hid (hTp.ext E0)
  have v0 := bC.x0; have v1 := bC.x1; have v2 := bC.x2; have u0 := bD.x0; have u1 := bD.x1
  clear h hn hcp hbn hbl hd hmq hcq hbm hnil hS hT E0 bC bD hW0 hH hm6 h0 hd0 hS0 hT0 hTp hF
  go_enter Tryd.func5, Tryd.ntmps5
  go_upto_region 1 with fail
  rw [HW0.out, HH.out]
  clear HW0 HH
  go_cut [9, 10] from 23 to 30 (fun s9 s10 wx => ∃ (B8 B9 : Nat) (rq rb : Int) (oa : Option Addr) (on oc : Nat) (sa : Option Addr) (sn sc : Nat) (ea : Option Addr) (en ec : Nat) (out : List Gop) (s0 st : List Int), s9 = .pointer (some ⟨B8, 0, none⟩) ∧ s10 = .pointer (some ⟨B9, 0, none⟩) ∧ wx.heap[B8]? = some (.cells #[.int .i64 rq, .int .i64 rb, .slice oa on oc, .slice sa sn sc, .slice ea en ec] 38 (0, 0)) ∧ wx.heap[B9]? = some (.cells #[.int .i64 F0, .int .i64 F1] 27 (0, 0)) ∧ Ext W0 wx ∧ (OpsAt wx oa on out ∧ IntsAt wx sa sn s0 ∧ IntsAt wx ea en st) ∧ (on ≤ oc ∧ oc ≤ 9223372036854775807) ∧ (sn ≤ sc ∧ sc ≤ 9223372036854775807) ∧ (en ≤ ec ∧ ec ≤ 9223372036854775807) ∧ FitR ⟨qb, bi, ops⟩ N ls rq rb out s0 st)
  case first =>
    have HSk := Lib.hid (fun (w' : World) (hx : Ext W0 w') => (show w'.cell? ⟨H, 0, none⟩ = some (.int .i64 qb) ∧ w'.cell? ⟨H, 1, none⟩ = some (.int .i64 bi) ∧ w'.cell? ⟨H, 2, none⟩ = some (.slice ao n cp) ∧ w'.cell? ⟨H + 1, 0, none⟩ = some (.int .i64 N) ∧ w'.cell? ⟨H + 1, 1, none⟩ = some (.slice bo m cq) from ⟨cell_ext v0 hx, cell_ext v1 hx, cell_ext v2 hx, cell_ext u0 hx, cell_ext u1 hx⟩))
    clear v0 v1 v2 u0 u1
    have E_ : Ext W0 W0.drew := Below.drew (Ext.refl _)
    refine wp_region_K 11 (fun w' => w'.cell? ⟨H, 0, none⟩ = some (.int .i64 qb) ∧ w'.cell? ⟨H, 1, none⟩ = some (.int .i64 bi) ∧ w'.cell? ⟨H, 2, none⟩ = some (.slice ao n cp) ∧ w'.cell? ⟨H + 1, 0, none⟩ = some (.int .i64 N) ∧ w'.cell? ⟨H + 1, 1, none⟩ = some (.slice bo m cq)) (by kernel_rfl) ?_
    show anyK _ _ _ _ _ _ 12 #[false, false, false, false, false, false, false, false, false, false, false, false] _ _
    refine anyK_take (i := 0) (v := ?_) rfl (by kernel_rfl) (by kernel_rfl) (by kernel_rfl) (N := 12) (by kernel_rfl) (by kernel_rfl) (by kernel_rfl) (fun _ _ _ h => h) (Or.inl ⟨by rfl, ?_⟩) (HSk.out _ E_) ?_
    rotate_left 1
    · intro w hSw
      go_simp
      try with_reducible rfl
    show anyK _ _ _ _ _ _ _ _ (Act.put _ (some 24) _) _
    simp only [Act.put, List.setIfInBounds_toArray, List.set_cons_zero, List.set_cons_succ]
    refine anyK_take (i := 2) (v := ?_) rfl (by kernel_rfl) (by kernel_rfl) (by kernel_rfl) (N := 12) (by kernel_rfl) (by kernel_rfl) (by kernel_rfl) (fun _ _ _ h => h) (Or.inl ⟨by rfl, ?_⟩) (HSk.out _ E_) ?_
    rotate_left 1
    · intro w hSw
      go_simp
      try with_reducible rfl
    show anyK _ _ _ _ _ _ _ _ (Act.put _ (some 26) _) _
    simp only [Act.put, List.setIfInBounds_toArray, List.set_cons_zero, List.set_cons_succ]
    refine anyK_three (i := 1) (j := 8) (t := 9) (by kernel_rfl) rfl rfl rfl (fun Kk hKk => ?_) (fun Kk hKk => ?_) (fun Kk hKk => ?_)
    · go_simp
      (go_at_call 12; refine (HCp.out _ (E_)).mono ?_; rintro e w_a ⟨⟨a1, c1, rfl, hN1⟩, hy⟩)
      have E_a : Ext W0 w_a := (E_).trans hy
      obtain ⟨_, k2, k3, hO1⟩ := hN1.at
      clear hN1
      clear hy
      go_wp2_with fail
      refine hKk.out _ _ (fun _ => HSk.out _ E_a) ?_
      clear hKk Kk
      simp only [List.setIfInBounds_toArray, List.set_cons_zero, List.set_cons_succ]
      refine anyK_three (i := 3) (j := 8) (t := 9) (by kernel_rfl) rfl rfl rfl (fun Kk hKk => ?_) (fun Kk hKk => ?_) (fun Kk hKk => ?_)
      · go_simp
        (go_at_call 7; refine (HCd.out _ (E_a)).mono ?_; rintro e w_ab ⟨b1, e1, rfl, ⟨hL1, _, _⟩, hy⟩)
        have E_ab : Ext W0 w_ab := (E_a).trans hy
        have hO1 := hO1.ext hy
        clear hy
        go_wp2_with fail
        refine hKk.out _ _ (fun _ => HSk.out _ E_ab) ?_
        clear hKk Kk
        simp only [List.setIfInBounds_toArray, List.set_cons_zero, List.set_cons_succ]
        refine anyK_three (i := 4) (j := 8) (t := 9) (by kernel_rfl) rfl rfl rfl (fun Kk hKk => ?_) (fun Kk hKk => ?_) (fun Kk hKk => ?_)
        · go_simp
          (go_at_call 13; refine (HFit.out _ (E_ab) a1 c1 b1 e1 hO1 k2 k3 hL1).mono ?_; rintro e wF ⟨rq, rb, oa, on, oc, sa, sn, sc, ea, en, ec, out, s0, st, rfl, ⟨hO3, hO4, hO5⟩, ⟨hI1, hI2, hI3⟩, ⟨hJ1, hJ2, hJ3⟩, hR, hyg, hy⟩)
          have E_abc : Ext W0 wF := (E_ab).trans hy
          obtain ⟨X3, hX3⟩ : ∃ X, (w_ab).heap.size = X := ⟨_, rfl⟩
          rw [hX3] at hyg
          have hxF : Ext wF wF := Ext.refl _
          clear hy hO1 hL1 hX3 hO3 hI1 hJ1
          go_wp2_with fail
          refine hKk.out _ _ (fun _ => HSk.out _ E_abc) ?_
          clear hKk Kk
          simp only [List.setIfInBounds_toArray, List.set_cons_zero, List.set_cons_succ]
          refine anyK_take (i := 5) (v := ?_) rfl (by kernel_rfl) (by kernel_rfl) (by kernel_rfl) (N := 12) (by kernel_rfl) (by kernel_rfl) (by kernel_rfl) (fun _ _ _ h => h) (Or.inl ⟨by rfl, ?_⟩) (HSk.out _ E_abc) ?_
          rotate_left 1
          · intro w hSw
            go_simp
            try with_reducible rfl
          show anyK _ _ _ _ _ _ _ _ (Act.put _ (some 23) _) _
          simp only [Act.put, List.setIfInBounds_toArray, List.set_cons_zero, List.set_cons_succ]
          refine anyK_take (i := 6) (v := ?_) rfl (by kernel_rfl) (by kernel_rfl) (by kernel_rfl) (N := 12) (by kernel_rfl) (by kernel_rfl) (by kernel_rfl) (fun _ _ _ h => h) (Or.inl ⟨by rfl, ?_⟩) (HSk.out _ E_abc) ?_
          rotate_left 1
          · intro w hSw
            go_simp
            try with_reducible rfl
          show anyK _ _ _ _ _ _ _ _ (Act.put _ (some 29) _) _
          simp only [Act.put, List.setIfInBounds_toArray, List.set_cons_zero, List.set_cons_succ]
          refine anyK_take (i := 7) (v := ?_) rfl (by kernel_rfl) (by kernel_rfl) (by kernel_rfl) (N := 12) (by kernel_rfl) (by kernel_rfl) (by kernel_rfl) (fun _ _ _ h => h) (Or.inl ⟨by rfl, ?_⟩) (HSk.out _ E_abc) ?_
          rotate_left 1
          · intro w hSw
            go_simp
            try with_reducible rfl
          show anyK _ _ _ _ _ _ _ _ (Act.put _ (some 30) _) _
          simp only [Act.put, List.setIfInBounds_toArray, List.set_cons_zero, List.set_cons_succ]
          refine anyK_pair (i := 8) (j := 9) (by kernel_rfl) rfl rfl (fun Kk hKk => ?_) (fun Kk hKk => ?_)
          · refine stepK_allocR rfl 9 rfl rfl ?_
            refine hKk.out _ _ (fun _ => HSk.out _ (cthen E_abc _)) ?_
            clear hKk Kk
            obtain ⟨w_abcp, hw_abcp⟩ : ∃ V, (wF).alloc (.cells #[.int .i64 0, .int .i64 0, .slice none 0 0, .slice none 0 0, .slice none 0 0] 38) = V := ⟨_, rfl⟩
            obtain ⟨B8, hB8⟩ : ∃ B, (wF).heap.size = B := ⟨_, rfl⟩
            have hy : Ext (wF) w_abcp := by rw [← hw_abcp]; exact ext_al _ _
            have r8 : w_abcp.heap[B8]? = some (.cells #[.int .i64 0, .int .i64 0, .slice none 0 0, .slice none 0 0, .slice none 0 0] 38 (0, 0)) := by rw [← hw_abcp, ← hB8]; exact heap_alloc_new _ _
            have s8 : W0.heap.size ≤ B8 := by rw [← hB8]; exact (E_abc).size
            have E_abcp : Ext W0 w_abcp := (E_abc).trans hy
            have n8 : B8 < X3 ∨ wF.heap.size ≤ B8 := Or.inr (by rw [← hB8]; exact hxF.size)
            have hxF : Ext wF w_abcp := hxF.trans hy
            show anyK _ _ _ _ _ _ _ _ (Act.put _ (some 9) _) _
            simp only [Act.put, List.setIfInBounds_toArray, List.set_cons_zero, List.set_cons_succ]
            rw [hw_abcp, hB8]
            clear hw_abcp hB8 hy
            refine anyK_one (i := 9) (by kernel_rfl) rfl (fun Kk hKk => ?_)
            refine stepK_allocF rfl 10 rfl rfl ?_
            refine hKk.out _ _ (fun _ => HSk.out _ (cthen E_abcp _)) ?_
            clear hKk Kk
            obtain ⟨w_abcpq, hw_abcpq⟩ : ∃ V, (w_abcp).alloc (.cells #[.int .i64 0, .int .i64 0] 27) = V := ⟨_, rfl⟩
            obtain ⟨B9, hB9⟩ : ∃ B, (w_abcp).heap.size = B := ⟨_, rfl⟩
            have hy : Ext (w_abcp) w_abcpq := by rw [← hw_abcpq]; exact ext_al _ _
            have r9 : w_abcpq.heap[B9]? = some (.cells #[.int .i64 0, .int .i64 0] 27 (0, 0)) := by rw [← hw_abcpq, ← hB9]; exact heap_alloc_new _ _
            have s9 : W0.heap.size ≤ B9 := by rw [← hB9]; exact (E_abcp).size
            have E_abcpq : Ext W0 w_abcpq := (E_abcp).trans hy
            have n9 : B9 < X3 ∨ wF.heap.size ≤ B9 := Or.inr (by rw [← hB9]; exact hxF.size)
            have hxF : Ext wF w_abcpq := hxF.trans hy
            have r8 := rowE r8 hy
            show anyK _ _ _ _ _ _ _ _ (Act.put _ (some 10) _) _
            simp only [Act.put, List.setIfInBounds_toArray, List.set_cons_zero, List.set_cons_succ]
            rw [hw_abcpq, hB9]
            clear hw_abcpq hB9 hy
            have n89 := ne_rows r8 r9 (by decide)
            refine anyK_one (i := 10) (by kernel_rfl) rfl (fun Kk hKk => ?_)
            refine stepK_storeRow rfl rfl 38 _ _ rfl B8 #[.int .i64 rq, .int .i64 rb, .slice oa on oc, .slice sa sn sc, .slice ea en ec] rfl rfl 38 _ r8 rt_info rfl (by kernel_rfl) ?_
            refine hKk.out _ _ (fun _ => HSk.out _ (ext_only' E_abcpq (setRow_only' _ _ _) s8)) ?_
            clear hKk Kk
            simp only [List.setIfInBounds_toArray, List.set_cons_zero, List.set_cons_succ]
            have r9' := ((setRow_only' w_abcpq B8 #[.int .i64 rq, .int .i64 rb, .slice oa on oc, .slice sa sn sc, .slice ea en ec]).block B9 (Ne.symm n89)).trans r9
            have r8' := setRow_heap w_abcpq B8 _ #[.int .i64 rq, .int .i64 rb, .slice oa on oc, .slice sa sn sc, .slice ea en ec] _ _ r8
            refine anyK_one (i := 11) (by kernel_rfl) rfl (fun Kk hKk => ?_)
            refine stepK_storeRow rfl rfl 27 _ _ rfl B9 #[.int .i64 F0, .int .i64 F1] rfl rfl 27 _ r9' ft_info rfl (by kernel_rfl) ?_
            refine hKk.out _ _ (fun h => Bool.noConfusion (show true = false from h)) ?_
            clear hKk Kk
            simp only [List.setIfInBounds_toArray, List.set_cons_zero, List.set_cons_succ]
            refine anyK_done (by kernel_rfl) ?_ _
            go_wp2_with fail
            go_meet
            exact ⟨B8, B9, rq, rb, oa, on, oc, sa, sn, sc, ea, en, ec, out, s0, st, rfl, rfl, ((setRow_only' _ B9 #[.int .i64 F0, .int .i64 F1]).block B8 n89).trans r8', setRow_heap _ B9 _ #[.int .i64 F0, .int .i64 F1] _ _ r9', ext_only' (ext_only' E_abcpq (setRow_only' _ _ _) s8) (setRow_only' _ _ _) s9, fit_lies (P := fun w2 => OpsAt w2 oa on out ∧ IntsAt w2 sa sn s0 ∧ IntsAt w2 ea en st) hyg hxF n8 n9 rfl, ⟨hO4, hO5⟩, ⟨hI2, hI3⟩, ⟨hJ2, hJ3⟩, hR⟩
          · refine stepK_allocF rfl 10 rfl rfl ?_
            refine hKk.out _ _ (fun _ => HSk.out _ (cthen E_abc _)) ?_
            clear hKk Kk
            obtain ⟨w_abcq, hw_abcq⟩ : ∃ V, (wF).alloc (.cells #[.int .i64 0, .int .i64 0] 27) = V := ⟨_, rfl⟩
            obtain ⟨B9, hB9⟩ : ∃ B, (wF).heap.size = B := ⟨_, rfl⟩
            have hy : Ext (wF) w_abcq := by rw [← hw_abcq]; exact ext_al _ _
            have r9 : w_abcq.heap[B9]? = some (.cells #[.int .i64 0, .int .i64 0] 27 (0, 0)) := by rw [← hw_abcq, ← hB9]; exact heap_alloc_new _ _
            have s9 : W0.heap.size ≤ B9 := by rw [← hB9]; exact (E_abc).size
            have E_abcq : Ext W0 w_abcq := (E_abc).trans hy
            have n9 : B9 < X3 ∨ wF.heap.size ≤ B9 := Or.inr (by rw [← hB9]; exact hxF.size)
            have hxF : Ext wF w_abcq := hxF.trans hy
            show anyK _ _ _ _ _ _ _ _ (Act.put _ (some 10) _) _
            simp only [Act.put, List.setIfInBounds_toArray, List.set_cons_zero, List.set_cons_succ]
            rw [hw_abcq, hB9]
            clear hw_abcq hB9 hy
            refine anyK_one (i := 8) (by kernel_rfl) rfl (fun Kk hKk => ?_)
            refine stepK_allocR rfl 9 rfl rfl ?_
            refine hKk.out _ _ (fun _ => HSk.out _ (cthen E_abcq _)) ?_
            clear hKk Kk
            obtain ⟨w_abcqp, hw_abcqp⟩ : ∃ V, (w_abcq).alloc (.cells #[.int .i64 0, .int .i64 0, .slice none 0 0, .slice none 0 0, .slice none 0 0] 38) = V := ⟨_, rfl⟩
            obtain ⟨B8, hB8⟩ : ∃ B, (w_abcq).heap.size = B := ⟨_, rfl⟩
            have hy : Ext (w_abcq) w_abcqp := by rw [← hw_abcqp]; exact ext_al _ _
            have r8 : w_abcqp.heap[B8]? = some (.cells #[.int .i64 0, .int .i64 0, .slice none 0 0, .slice none 0 0, .slice none 0 0] 38 (0, 0)) := by rw [← hw_abcqp, ← hB8]; exact heap_alloc_new _ _
            have s8 : W0.heap.size ≤ B8 := by rw [← hB8]; exact (E_abcq).size
            have E_abcqp : Ext W0 w_abcqp := (E_abcq).trans hy
            have n8 : B8 < X3 ∨ wF.heap.size ≤ B8 := Or.inr (by rw [← hB8]; exact hxF.size)
            have hxF : Ext wF w_abcqp := hxF.trans hy
            have r9 := rowE r9 hy
            show anyK _ _ _ _ _ _ _ _ (Act.put _ (some 9) _) _
            simp only [Act.put, List.setIfInBounds_toArray, List.set_cons_zero, List.set_cons_succ]
            rw [hw_abcqp, hB8]
            clear hw_abcqp hB8 hy
            have n89 := ne_rows r8 r9 (by decide)
            refine anyK_one (i := 10) (by kernel_rfl) rfl (fun Kk hKk => ?_)
            refine stepK_storeRow rfl rfl 38 _ _ rfl B8 #[.int .i64 rq, .int .i64 rb, .slice oa on oc, .slice sa sn sc, .slice ea en ec] rfl rfl 38 _ r8 rt_info rfl (by kernel_rfl) ?_
            refine hKk.out _ _ (fun _ => HSk.out _ (ext_only' E_abcqp (setRow_only' _ _ _) s8)) ?_
            clear hKk Kk
            simp only [List.setIfInBounds_toArray, List.set_cons_zero, List.set_cons_succ]
            have r9' := ((setRow_only' w_abcqp B8 #[.int .i64 rq, .int .i64 rb, .slice oa on oc, .slice sa sn sc, .slice ea en ec]).block B9 (Ne.symm n89)).trans r9
            have r8' := setRow_heap w_abcqp B8 _ #[.int .i64 rq, .int .i64 rb, .slice oa on oc, .slice sa sn sc, .slice ea en ec] _ _ r8
            refine anyK_one (i := 11) (by kernel_rfl) rfl (fun Kk hKk => ?_)
            refine stepK_storeRow rfl rfl 27 _ _ rfl B9 #[.int .i64 F0, .int .i64 F1] rfl rfl 27 _ r9' ft_info rfl (by kernel_rfl) ?_
            refine hKk.out _ _ (fun h => Bool.noConfusion (show true = false from h)) ?_
            clear hKk Kk
            simp only [List.setIfInBounds_toArray, List.set_cons_zero, List.set_cons_succ]
            refine anyK_done (by kernel_rfl) ?_ _
            go_wp2_with fail
            go_meet
            exact ⟨B8, B9, rq, rb, oa, on, oc, sa, sn, sc, ea, en, ec, out, s0, st, rfl, rfl, ((setRow_only' _ B9 #[.int .i64 F0, .int .i64 F1]).block B8 n89).trans r8', setRow_heap _ B9 _ #[.int .i64 F0, .int .i64 F1] _ _ r9', ext_only' (ext_only' E_abcqp (setRow_only' _ _ _) s8) (setRow_only' _ _ _) s9, fit_lies (P := fun w2 => OpsAt w2 oa on out ∧ IntsAt w2 sa sn s0 ∧ IntsAt w2 ea en st) hyg hxF n8 n9 rfl, ⟨hO4, hO5⟩, ⟨hI2, hI3⟩, ⟨hJ2, hJ3⟩, hR⟩
        · refine stepK_allocR rfl 9 rfl rfl ?_
          refine hKk.out _ _ (fun _ => HSk.out _ (cthen E_ab _)) ?_
          clear hKk Kk
          obtain ⟨w_abp, hw_abp⟩ : ∃ V, (w_ab).alloc (.cells #[.int .i64 0, .int .i64 0, .slice none 0 0, .slice none 0 0, .slice none 0 0] 38) = V := ⟨_, rfl⟩
          obtain ⟨B8, hB8⟩ : ∃ B, (w_ab).heap.size = B := ⟨_, rfl⟩
          have hy : Ext (w_ab) w_abp := by rw [← hw_abp]; exact ext_al _ _
          have r8 : w_abp.heap[B8]? = some (.cells #[.int .i64 0, .int .i64 0, .slice none 0 0, .slice none 0 0, .slice none 0 0] 38 (0, 0)) := by rw [← hw_abp, ← hB8]; exact heap_alloc_new _ _
          have s8 : W0.heap.size ≤ B8 := by rw [← hB8]; exact (E_ab).size
          have E_abp : Ext W0 w_abp := (E_ab).trans hy
          have hO1 := hO1.ext hy
          have hL1 := hL1.ext hy
          show anyK _ _ _ _ _ _ _ _ (Act.put _ (some 9) _) _
          simp only [Act.put, List.setIfInBounds_toArray, List.set_cons_zero, List.set_cons_succ]
          rw [hw_abp, hB8]
          clear hw_abp hB8 hy
          refine anyK_pair (i := 4) (j := 9) (by kernel_rfl) rfl rfl (fun Kk hKk => ?_) (fun Kk hKk => ?_)
          · go_simp
            (go_at_call 13; refine (HFit.out _ (E_abp) a1 c1 b1 e1 hO1 k2 k3 hL1).mono ?_; rintro e wF ⟨rq, rb, oa, on, oc, sa, sn, sc, ea, en, ec, out, s0, st, rfl, ⟨hO3, hO4, hO5⟩, ⟨hI1, hI2, hI3⟩, ⟨hJ1, hJ2, hJ3⟩, hR, hyg, hy⟩)
            have E_abpc : Ext W0 wF := (E_abp).trans hy
            obtain ⟨X3, hX3⟩ : ∃ X, (w_abp).heap.size = X := ⟨_, rfl⟩
            rw [hX3] at hyg
            have n8 : B8 < X3 ∨ wF.heap.size ≤ B8 := Or.inl (by rw [← hX3]; exact lt_row r8)
            have hxF : Ext wF wF := Ext.refl _
            have r8 := rowE r8 hy
            clear hy hO1 hL1 hX3 hO3 hI1 hJ1
            go_wp2_with fail
            refine hKk.out _ _ (fun _ => HSk.out _ E_abpc) ?_
            clear hKk Kk
            simp only [List.setIfInBounds_toArray, List.set_cons_zero, List.set_cons_succ]
            refine anyK_take (i := 5) (v := ?_) rfl (by kernel_rfl) (by kernel_rfl) (by kernel_rfl) (N := 12) (by kernel_rfl) (by kernel_rfl) (by kernel_rfl) (fun _ _ _ h => h) (Or.inl ⟨by rfl, ?_⟩) (HSk.out _ E_abpc) ?_
            rotate_left 1
            · intro w hSw
              go_simp
              try with_reducible rfl
            show anyK _ _ _ _ _ _ _ _ (Act.put _ (some 23) _) _
            simp only [Act.put, List.setIfInBounds_toArray, List.set_cons_zero, List.set_cons_succ]
            refine anyK_take (i := 6) (v := ?_) rfl (by kernel_rfl) (by kernel_rfl) (by kernel_rfl) (N := 12) (by kernel_rfl) (by kernel_rfl) (by kernel_rfl) (fun _ _ _ h => h) (Or.inl ⟨by rfl, ?_⟩) (HSk.out _ E_abpc) ?_
            rotate_left 1
            · intro w hSw
              go_simp
              try with_reducible rfl
            show anyK _ _ _ _ _ _ _ _ (Act.put _ (some 29) _) _
            simp only [Act.put, List.setIfInBounds_toArray, List.set_cons_zero, List.set_cons_succ]
            refine anyK_take (i := 7) (v := ?_) rfl (by kernel_rfl) (by kernel_rfl) (by kernel_rfl) (N := 12) (by kernel_rfl) (by kernel_rfl) (by kernel_rfl) (fun _ _ _ h => h) (Or.inl ⟨by rfl, ?_⟩) (HSk.out _ E_abpc) ?_
            rotate_left 1
            · intro w hSw
              go_simp
              try with_reducible rfl
            show anyK _ _ _ _ _ _ _ _ (Act.put _ (some 30) _) _
            simp only [Act.put, List.setIfInBounds_toArray, List.set_cons_zero, List.set_cons_succ]
            refine anyK_one (i := 9) (by kernel_rfl) rfl (fun Kk hKk => ?_)
            refine stepK_allocF rfl 10 rfl rfl ?_
            refine hKk.out _ _ (fun _ => HSk.out _ (cthen E_abpc _)) ?_
            clear hKk Kk
            obtain ⟨w_abpcq, hw_abpcq⟩ : ∃ V, (wF).alloc (.cells #[.int .i64 0, .int .i64 0] 27) = V := ⟨_, rfl⟩
            obtain ⟨B9, hB9⟩ : ∃ B, (wF).heap.size = B := ⟨_, rfl⟩
            have hy : Ext (wF) w_abpcq := by rw [← hw_abpcq]; exact ext_al _ _
            have r9 : w_abpcq.heap[B9]? = some (.cells #[.int .i64 0, .int .i64 0] 27 (0, 0)) := by rw [← hw_abpcq, ← hB9]; exact heap_alloc_new _ _
            have s9 : W0.heap.size ≤ B9 := by rw [← hB9]; exact (E_abpc).size
            have E_abpcq : Ext W0 w_abpcq := (E_abpc).trans hy
            have n9 : B9 < X3 ∨ wF.heap.size ≤ B9 := Or.inr (by rw [← hB9]; exact hxF.size)
            have hxF : Ext wF w_abpcq := hxF.trans hy
            have r8 := rowE r8 hy
            show anyK _ _ _ _ _ _ _ _ (Act.put _ (some 10) _) _
            simp only [Act.put, List.setIfInBounds_toArray, List.set_cons_zero, List.set_cons_succ]
            rw [hw_abpcq, hB9]
            clear hw_abpcq hB9 hy
            have n89 := ne_rows r8 r9 (by decide)
            refine anyK_one (i := 10) (by kernel_rfl) rfl (fun Kk hKk => ?_)
            refine stepK_storeRow rfl rfl 38 _ _ rfl B8 #[.int .i64 rq, .int .i64 rb, .slice oa on oc, .slice sa sn sc, .slice ea en ec] rfl rfl 38 _ r8 rt_info rfl (by kernel_rfl) ?_
            refine hKk.out _ _ (fun _ => HSk.out _ (ext_only' E_abpcq (setRow_only' _ _ _) s8)) ?_
            clear hKk Kk
            simp only [List.setIfInBounds_toArray, List.set_cons_zero, List.set_cons_succ]
            have r9' := ((setRow_only' w_abpcq B8 #[.int .i64 rq, .int .i64 rb, .slice oa on oc, .slice sa sn sc, .slice ea en ec]).block B9 (Ne.symm n89)).trans r9
            have r8' := setRow_heap w_abpcq B8 _ #[.int .i64 rq, .int .i64 rb, .slice oa on oc, .slice sa sn sc, .slice ea en ec] _ _ r8
            refine anyK_one (i := 11) (by kernel_rfl) rfl (fun Kk hKk => ?_)
            refine stepK_storeRow rfl rfl 27 _ _ rfl B9 #[.int .i64 F0, .int .i64 F1] rfl rfl 27 _ r9' ft_info rfl (by kernel_rfl) ?_
            refine hKk.out _ _ (fun h => Bool.noConfusion (show true = false from h)) ?_
            clear hKk Kk
            simp only [List.setIfInBounds_toArray, List.set_cons_zero, List.set_cons_succ]
            refine anyK_done (by kernel_rfl) ?_ _
            go_wp2_with fail
            go_meet
            exact ⟨B8, B9, rq, rb, oa, on, oc, sa, sn, sc, ea, en, ec, out, s0, st, rfl, rfl, ((setRow_only' _ B9 #[.int .i64 F0, .int .i64 F1]).block B8 n89).trans r8', setRow_heap _ B9 _ #[.int .i64 F0, .int .i64 F1] _ _ r9', ext_only' (ext_only' E_abpcq (setRow_only' _ _ _) s8) (setRow_only' _ _ _) s9, fit_lies (P := fun w2 => OpsAt w2 oa on out ∧ IntsAt w2 sa sn s0 ∧ IntsAt w2 ea en st) hyg hxF n8 n9 rfl, ⟨hO4, hO5⟩, ⟨hI2, hI3⟩, ⟨hJ2, hJ3⟩, hR⟩
          · refine stepK_allocF rfl 10 rfl rfl ?_
            refine hKk.out _ _ (fun _ => HSk.out _ (cthen E_abp _)) ?_
            clear hKk Kk
            obtain ⟨w_abpq, hw_abpq⟩ : ∃ V, (w_abp).alloc (.cells #[.int .i64 0, .int .i64 0] 27) = V := ⟨_, rfl⟩
            obtain ⟨B9, hB9⟩ : ∃ B, (w_abp).heap.size = B := ⟨_, rfl⟩
            have hy : Ext (w_abp) w_abpq := by rw [← hw_abpq]; exact ext_al _ _
            have r9 : w_abpq.heap[B9]? = some (.cells #[.int .i64 0, .int .i64 0] 27 (0, 0)) := by rw [← hw_abpq, ← hB9]; exact heap_alloc_new _ _
            have s9 : W0.heap.size ≤ B9 := by rw [← hB9]; exact (E_abp).size
            have E_abpq : Ext W0 w_abpq := (E_abp).trans hy
            have r8 := rowE r8 hy
            have hO1 := hO1.ext hy
            have hL1 := hL1.ext hy
            show anyK _ _ _ _ _ _ _ _ (Act.put _ (some 10) _) _
            simp only [Act.put, List.setIfInBounds_toArray, List.set_cons_zero, List.set_cons_succ]
            rw [hw_abpq, hB9]
            clear hw_abpq hB9 hy
            refine anyK_one (i := 4) (by kernel_rfl) rfl (fun Kk hKk => ?_)
            go_simp
            (go_at_call 13; refine (HFit.out _ (E_abpq) a1 c1 b1 e1 hO1 k2 k3 hL1).mono ?_; rintro e wF ⟨rq, rb, oa, on, oc, sa, sn, sc, ea, en, ec, out, s0, st, rfl, ⟨hO3, hO4, hO5⟩, ⟨hI1, hI2, hI3⟩, ⟨hJ1, hJ2, hJ3⟩, hR, hyg, hy⟩)
            have E_abpqc : Ext W0 wF := (E_abpq).trans hy
            obtain ⟨X3, hX3⟩ : ∃ X, (w_abpq).heap.size = X := ⟨_, rfl⟩
            rw [hX3] at hyg
            have n8 : B8 < X3 ∨ wF.heap.size ≤ B8 := Or.inl (by rw [← hX3]; exact lt_row r8)
            have n9 : B9 < X3 ∨ wF.heap.size ≤ B9 := Or.inl (by rw [← hX3]; exact lt_row r9)
            have hxF : Ext wF wF := Ext.refl _
            have r8 := rowE r8 hy
            have r9 := rowE r9 hy
            clear hy hO1 hL1 hX3 hO3 hI1 hJ1
            go_wp2_with fail
            refine hKk.out _ _ (fun _ => HSk.out _ E_abpqc) ?_
            clear hKk Kk
            simp only [List.setIfInBounds_toArray, List.set_cons_zero, List.set_cons_succ]
            refine anyK_take (i := 5) (v := ?_) rfl (by kernel_rfl) (by kernel_rfl) (by kernel_rfl) (N := 12) (by kernel_rfl) (by kernel_rfl) (by kernel_rfl) (fun _ _ _ h => h) (Or.inl ⟨by rfl, ?_⟩) (HSk.out _ E_abpqc) ?_
            rotate_left 1
            · intro w hSw
              go_simp
              try with_reducible rfl
            show anyK _ _ _ _ _ _ _ _ (Act.put _ (some 23) _) _
            simp only [Act.put, List.setIfInBounds_toArray, List.set_cons_zero, List.set_cons_succ]
            refine anyK_take (i := 6) (v := ?_) rfl (by kernel_rfl) (by kernel_rfl) (by kernel_rfl) (N := 12) (by kernel_rfl) (by kernel_rfl) (by kernel_rfl) (fun _ _ _ h => h) (Or.inl ⟨by rfl, ?_⟩) (HSk.out _ E_abpqc) ?_
            rotate_left 1
            · intro w hSw
              go_simp
              try with_reducible rfl
            show anyK _ _ _ _ _ _ _ _ (Act.put _ (some 29) _) _
            simp only [Act.put, List.setIfInBounds_toArray, List.set_cons_zero, List.set_cons_succ]
            refine anyK_take (i := 7) (v := ?_) rfl (by kernel_rfl) (by kernel_rfl) (by kernel_rfl) (N := 12) (by kernel_rfl) (by kernel_rfl) (by kernel_rfl) (fun _ _ _ h => h) (Or.inl ⟨by rfl, ?_⟩) (HSk.out _ E_abpqc) ?_
            rotate_left 1
            · intro w hSw
              go_simp
              try with_reducible rfl
            show anyK _ _ _ _ _ _ _ _ (Act.put _ (some 30) _) _
            simp only [Act.put, List.setIfInBounds_toArray, List.set_cons_zero, List.set_cons_succ]
            have n89 := ne_rows r8 r9 (by decide)
            refine anyK_one (i := 10) (by kernel_rfl) rfl (fun Kk hKk => ?_)
            refine stepK_storeRow rfl rfl 38 _ _ rfl B8 #[.int .i64 rq, .int .i64 rb, .slice oa on oc, .slice sa sn sc, .slice ea en ec] rfl rfl 38 _ r8 rt_info rfl (by kernel_rfl) ?_
            refine hKk.out _ _ (fun _ => HSk.out _ (ext_only' E_abpqc (setRow_only' _ _ _) s8)) ?_
            clear hKk Kk
            simp only [List.setIfInBounds_toArray, List.set_cons_zero, List.set_cons_succ]
            have r9' := ((setRow_only' wF B8 #[.int .i64 rq, .int .i64 rb, .slice oa on oc, .slice sa sn sc, .slice ea en ec]).block B9 (Ne.symm n89)).trans r9
            have r8' := setRow_heap wF B8 _ #[.int .i64 rq, .int .i64 rb, .slice oa on oc, .slice sa sn sc, .slice ea en ec] _ _ r8
            refine anyK_one (i := 11) (by kernel_rfl) rfl (fun Kk hKk => ?_)
            refine stepK_storeRow rfl rfl 27 _ _ rfl B9 #[.int .i64 F0, .int .i64 F1] rfl rfl 27 _ r9' ft_info rfl (by kernel_rfl) ?_
            refine hKk.out _ _ (fun h => Bool.noConfusion (show true = false from h)) ?_
            clear hKk Kk
            simp only [List.setIfInBounds_toArray, List.set_cons_zero, List.set_cons_succ]
            refine anyK_done (by kernel_rfl) ?_ _
            go_wp2_with fail
            go_meet
            exact ⟨B8, B9, rq, rb, oa, on, oc, sa, sn, sc, ea, en, ec, out, s0, st, rfl, rfl, ((setRow_only' _ B9 #[.int .i64 F0, .int .i64 F1]).block B8 n89).trans r8', setRow_heap _ B9 _ #[.int .i64 F0, .int .i64 F1] _ _ r9', ext_only' (ext_only' E_abpqc (setRow_only' _ _ _) s8) (setRow_only' _ _ _) s9, fit_lies (P := fun w2 => OpsAt w2 oa on out ∧ IntsAt w2 sa sn s0 ∧ IntsAt w2 ea en st) hyg hxF n8 n9 rfl, ⟨hO4, hO5⟩, ⟨hI2, hI3⟩, ⟨hJ2, hJ3⟩, hR⟩
        · refine stepK_allocF rfl 10 rfl rfl ?_
          refine hKk.out _ _ (fun _ => HSk.out _ (cthen E_ab _)) ?_
          clear hKk Kk
          obtain ⟨w_abq, hw_abq⟩ : ∃ V, (w_ab).alloc (.cells #[.int .i64 0, .int .i64 0] 27) = V := ⟨_, rfl⟩
          obtain ⟨B9, hB9⟩ : ∃ B, (w_ab).heap.size = B := ⟨_, rfl⟩
          have hy : Ext (w_ab) w_abq := by rw [← hw_abq]; exact ext_al _ _
          have r9 : w_abq.heap[B9]? = some (.cells #[.int .i64 0, .int .i64 0] 27 (0, 0)) := by rw [← hw_abq, ← hB9]; exact heap_alloc_new _ _
          have s9 : W0.heap.size ≤ B9 := by rw [← hB9]; exact (E_ab).size
          have E_abq : Ext W0 w_abq := (E_ab).trans hy
          have hO1 := hO1.ext hy
          have hL1 := hL1.ext hy
          show anyK _ _ _ _ _ _ _ _ (Act.put _ (some 10) _) _
          simp only [Act.put, List.setIfInBounds_toArray, List.set_cons_zero, List.set_cons_succ]
          rw [hw_abq, hB9]
          clear hw_abq hB9 hy
          refine anyK_pair (i := 4) (j := 8) (by kernel_rfl) rfl rfl (fun Kk hKk => ?_) (fun Kk hKk => ?_)
          · go_simp
            (go_at_call 13; refine (HFit.out _ (E_abq) a1 c1 b1 e1 hO1 k2 k3 hL1).mono ?_; rintro e wF ⟨rq, rb, oa, on, oc, sa, sn, sc, ea, en, ec, out, s0, st, rfl, ⟨hO3, hO4, hO5⟩, ⟨hI1, hI2, hI3⟩, ⟨hJ1, hJ2, hJ3⟩, hR, hyg, hy⟩)
            have E_abqc : Ext W0 wF := (E_abq).trans hy
            obtain ⟨X3, hX3⟩ : ∃ X, (w_abq).heap.size = X := ⟨_, rfl⟩
            rw [hX3] at hyg
            have n9 : B9 < X3 ∨ wF.heap.size ≤ B9 := Or.inl (by rw [← hX3]; exact lt_row r9)
            have hxF : Ext wF wF := Ext.refl _
            have r9 := rowE r9 hy
            clear hy hO1 hL1 hX3 hO3 hI1 hJ1
            go_wp2_with fail
            refine hKk.out _ _ (fun _ => HSk.out _ E_abqc) ?_
            clear hKk Kk
            simp only [List.setIfInBounds_toArray, List.set_cons_zero, List.set_cons_succ]
            refine anyK_take (i := 5) (v := ?_) rfl (by kernel_rfl) (by kernel_rfl) (by kernel_rfl) (N := 12) (by kernel_rfl) (by kernel_rfl) (by kernel_rfl) (fun _ _ _ h => h) (Or.inl ⟨by rfl, ?_⟩) (HSk.out _ E_abqc) ?_
            rotate_left 1
            · intro w hSw
              go_simp
              try with_reducible rfl
            show anyK _ _ _ _ _ _ _ _ (Act.put _ (some 23) _) _
            simp only [Act.put, List.setIfInBounds_toArray, List.set_cons_zero, List.set_cons_succ]
            refine anyK_take (i := 6) (v := ?_) rfl (by kernel_rfl) (by kernel_rfl) (by kernel_rfl) (N := 12) (by kernel_rfl) (by kernel_rfl) (by kernel_rfl) (fun _ _ _ h => h) (Or.inl ⟨by rfl, ?_⟩) (HSk.out _ E_abqc) ?_
            rotate_left 1
            · intro w hSw
              go_simp
              try with_reducible rfl
            show anyK _ _ _ _ _ _ _ _ (Act.put _ (some 29) _) _
            simp only [Act.put, List.setIfInBounds_toArray, List.set_cons_zero, List.set_cons_succ]
            refine anyK_take (i := 7) (v := ?_) rfl (by kernel_rfl) (by kernel_rfl) (by kernel_rfl) (N := 12) (by kernel_rfl) (by kernel_rfl) (by kernel_rfl) (fun _ _ _ h => h) (Or.inl ⟨by rfl, ?_⟩) (HSk.out _ E_abqc) ?_
            rotate_left 1
            · intro w hSw
              go_simp
              try with_reducible rfl
            show anyK _ _ _ _ _ _ _ _ (Act.put _ (some 30) _) _
            simp only [Act.put, List.setIfInBounds_toArray, List.set_cons_zero, List.set_cons_succ]
            refine anyK_one (i := 8) (by kernel_rfl) rfl (fun Kk hKk => ?_)
            refine stepK_allocR rfl 9 rfl rfl ?_
            refine hKk.out _ _ (fun _ => HSk.out _ (cthen E_abqc _)) ?_
            clear hKk Kk
            obtain ⟨w_abqcp, hw_abqcp⟩ : ∃ V, (wF).alloc (.cells #[.int .i64 0, .int .i64 0, .slice none 0 0, .slice none 0 0, .slice none 0 0] 38) = V := ⟨_, rfl⟩
            obtain ⟨B8, hB8⟩ : ∃ B, (wF).heap.size = B := ⟨_, rfl⟩
            have hy : Ext (wF) w_abqcp := by rw [← hw_abqcp]; exact ext_al _ _
            have r8 : w_abqcp.heap[B8]? = some (.cells #[.int .i64 0, .int .i64 0, .slice none 0 0, .slice none 0 0, .slice none 0 0] 38 (0, 0)) := by rw [← hw_abqcp, ← hB8]; exact heap_alloc_new _ _
            have s8 : W0.heap.size ≤ B8 := by rw [← hB8]; exact (E_abqc).size
            have E_abqcp : Ext W0 w_abqcp := (E_abqc).trans hy
            have n8 : B8 < X3 ∨ wF.heap.size ≤ B8 := Or.inr (by rw [← hB8]; exact hxF.size)
            have hxF : Ext wF w_abqcp := hxF.trans hy
            have r9 := rowE r9 hy
            show anyK _ _ _ _ _ _ _ _ (Act.put _ (some 9) _) _
            simp only [Act.put, List.setIfInBounds_toArray, List.set_cons_zero, List.set_cons_succ]
            rw [hw_abqcp, hB8]
            clear hw_abqcp hB8 hy
            have n89 := ne_rows r8 r9 (by decide)
            refine anyK_one (i := 10) (by kernel_rfl) rfl (fun Kk hKk => ?_)
            refine stepK_storeRow rfl rfl 38 _ _ rfl B8 #[.int .i64 rq, .int .i64 rb, .slice oa on oc, .slice sa sn sc, .slice ea en ec] rfl rfl 38 _ r8 rt_info rfl (by kernel_rfl) ?_
            refine hKk.out _ _ (fun _ => HSk.out _ (ext_only' E_abqcp (setRow_only' _ _ _) s8)) ?_
            clear hKk Kk
            simp only [List.setIfInBounds_toArray, List.set_cons_zero, List.set_cons_succ]
            have r9' := ((setRow_only' w_abqcp B8 #[.int .i64 rq, .int .i64 rb, .slice oa on oc, .slice sa sn sc, .slice ea en ec]).block B9 (Ne.symm n89)).trans r9
            have r8' := setRow_heap w_abqcp B8 _ #[.int .i64 rq, .int .i64 rb, .slice oa on oc, .slice sa sn sc, .slice ea en ec] _ _ r8
            refine anyK_one (i := 11) (by kernel_rfl) rfl (fun Kk hKk => ?_)
            refine stepK_storeRow rfl rfl 27 _ _ rfl B9 #[.int .i64 F0, .int .i64 F1] rfl rfl 27 _ r9' ft_info rfl (by kernel_rfl) ?_
            refine hKk.out _ _ (fun h => Bool.noConfusion (show true = false from h)) ?_
            clear hKk Kk
            simp only [List.setIfInBounds_toArray, List.set_cons_zero, List.set_cons_succ]
            refine anyK_done (by kernel_rfl) ?_ _
            go_wp2_with fail
            go_meet
            exact ⟨B8, B9, rq, rb, oa, on, oc, sa, sn, sc, ea, en, ec, out, s0, st, rfl, rfl, ((setRow_only' _ B9 #[.int .i64 F0, .int .i64 F1]).block B8 n89).trans r8', setRow_heap _ B9 _ #[.int .i64 F0, .int .i64 F1] _ _ r9', ext_only' (ext_only' E_abqcp (setRow_only' _ _ _) s8) (setRow_only' _ _ _) s9, fit_lies (P := fun w2 => OpsAt w2 oa on out ∧ IntsAt w2 sa sn s0 ∧ IntsAt w2 ea en st) hyg hxF n8 n9 rfl, ⟨hO4, hO5⟩, ⟨hI2, hI3⟩, ⟨hJ2, hJ3⟩, hR⟩
          · refine stepK_allocR rfl 9 rfl rfl ?_
            refine hKk.out _ _ (fun _ => HSk.out _ (cthen E_abq _)) ?_
            clear hKk Kk
            obtain ⟨w_abqp, hw_abqp⟩ : ∃ V, (w_abq).alloc (.cells #[.int .i64 0, .int .i64 0, .slice none 0 0, .slice none 0 0, .slice none 0 0] 38) = V := ⟨_, rfl⟩
            obtain ⟨B8, hB8⟩ : ∃ B, (w_abq).heap.size = B := ⟨_, rfl⟩
            have hy : Ext (w_abq) w_abqp := by rw [← hw_abqp]; exact ext_al _ _
            have r8 : w_abqp.heap[B8]? = some (.cells #[.int .i64 0, .int .i64 0, .slice none 0 0, .slice none 0 0, .slice none 0 0] 38 (0, 0)) := by rw [← hw_abqp, ← hB8]; exact heap_alloc_new _ _
            have s8 : W0.heap.size ≤ B8 := by rw [← hB8]; exact (E_abq).size
            have E_abqp : Ext W0 w_abqp := (E_abq).trans hy
            have r9 := rowE r9 hy
            have hO1 := hO1.ext hy
            have hL1 := hL1.ext hy
            show anyK _ _ _ _ _ _ _ _ (Act.put _ (some 9) _) _
            simp only [Act.put, List.setIfInBounds_toArray, List.set_cons_zero, List.set_cons_succ]
            rw [hw_abqp, hB8]
            clear hw_abqp hB8 hy
            refine anyK_one (i := 4) (by kernel_rfl) rfl (fun Kk hKk => ?_)
            go_simp
            (go_at_call 13; refine (HFit.out _ (E_abqp) a1 c1 b1 e1 hO1 k2 k3 hL1).mono ?_; rintro e wF ⟨rq, rb, oa, on, oc, sa, sn, sc, ea, en, ec, out, s0, st, rfl, ⟨hO3, hO4, hO5⟩, ⟨hI1, hI2, hI3⟩, ⟨hJ1, hJ2, hJ3⟩, hR, hyg, hy⟩)
            have E_abqpc : Ext W0 wF := (E_abqp).trans hy
            obtain ⟨X3, hX3⟩ : ∃ X, (w_abqp).heap.size = X := ⟨_, rfl⟩
            rw [hX3] at hyg
            have n9 : B9 < X3 ∨ wF.heap.size ≤ B9 := Or.inl (by rw [← hX3]; exact lt_row r9)
            have n8 : B8 < X3 ∨ wF.heap.size ≤ B8 := Or.inl (by rw [← hX3]; exact lt_row r8)
            have hxF : Ext wF wF := Ext.refl _
            have r9 := rowE r9 hy
            have r8 := rowE r8 hy
            clear hy hO1 hL1 hX3 hO3 hI1 hJ1
            go_wp2_with fail
            refine hKk.out _ _ (fun _ => HSk.out _ E_abqpc) ?_
            clear hKk Kk
            simp only [List.setIfInBounds_toArray, List.set_cons_zero, List.set_cons_succ]
            refine anyK_take (i := 5) (v := ?_) rfl (by kernel_rfl) (by kernel_rfl) (by kernel_rfl) (N := 12) (by kernel_rfl) (by kernel_rfl) (by kernel_rfl) (fun _ _ _ h => h) (Or.inl ⟨by rfl, ?_⟩) (HSk.out _ E_abqpc) ?_
            rotate_left 1
            · intro w hSw
              go_simp
              try with_reducible rfl
            show anyK _ _ _ _ _ _ _ _ (Act.put _ (some 23) _) _
            simp only [Act.put, List.setIfInBounds_toArray, List.set_cons_zero, List.set_cons_succ]
            refine anyK_take (i := 6) (v := ?_) rfl (by kernel_rfl) (by kernel_rfl) (by kernel_rfl) (N := 12) (by kernel_rfl) (by kernel_rfl) (by kernel_rfl) (fun _ _ _ h => h) (Or.inl ⟨by rfl, ?_⟩) (HSk.out _ E_abqpc) ?_
            rotate_left 1
            · intro w hSw
              go_simp
              try with_reducible rfl
            show anyK _ _ _ _ _ _ _ _ (Act.put _ (some 29) _) _
            simp only [Act.put, List.setIfInBounds_toArray, List.set_cons_zero, List.set_cons_succ]
            refine anyK_take (i := 7) (v := ?_) rfl (by kernel_rfl) (by kernel_rfl) (by kernel_rfl) (N := 12) (by kernel_rfl) (by kernel_rfl) (by kernel_rfl) (fun _ _ _ h => h) (Or.inl ⟨by rfl, ?_⟩) (HSk.out _ E_abqpc) ?_
            rotate_left 1
            · intro w hSw
              go_simp
              try with_reducible rfl
            show anyK _ _ _ _ _ _ _ _ (Act.put _ (some 30) _) _
            simp only [Act.put, List.setIfInBounds_toArray, List.set_cons_zero, List.set_cons_succ]
            have n89 := ne_rows r8 r9 (by decide)
            refine anyK_one (i := 10) (by kernel_rfl) rfl (fun Kk hKk => ?_)
            refine stepK_storeRow rfl rfl 38 _ _ rfl B8 #[.int .i64 rq, .int .i64 rb, .slice oa on oc, .slice sa sn sc, .slice ea en ec] rfl rfl 38 _ r8 rt_info rfl (by kernel_rfl) ?_
            refine hKk.out _ _ (fun _ => HSk.out _ (ext_only' E_abqpc (setRow_only' _ _ _) s8)) ?_
            clear hKk Kk
            simp only [List.setIfInBounds_toArray, List.set_cons_zero, List.set_cons_succ]
            have r9' := ((setRow_only' wF B8 #[.int .i64 rq, .int .i64 rb, .slice oa on oc, .slice sa sn sc, .slice ea en ec]).block B9 (Ne.symm n89)).trans r9
            have r8' := setRow_heap wF B8 _ #[.int .i64 rq, .int .i64 rb, .slice oa on oc, .slice sa sn sc, .slice ea en ec] _ _ r8
            refine anyK_one (i := 11) (by kernel_rfl) rfl (fun Kk hKk => ?_)
            refine stepK_storeRow rfl rfl 27 _ _ rfl B9 #[.int .i64 F0, .int .i64 F1] rfl rfl 27 _ r9' ft_info rfl (by kernel_rfl) ?_
            refine hKk.out _ _ (fun h => Bool.noConfusion (show true = false from h)) ?_
            clear hKk Kk
            simp only [List.setIfInBounds_toArray, List.set_cons_zero, List.set_cons_succ]
            refine anyK_done (by kernel_rfl) ?_ _
            go_wp2_with fail
            go_meet
            exact ⟨B8, B9, rq, rb, oa, on, oc, sa, sn, sc, ea, en, ec, out, s0, st, rfl, rfl, ((setRow_only' _ B9 #[.int .i64 F0, .int .i64 F1]).block B8 n89).trans r8', setRow_heap _ B9 _ #[.int .i64 F0, .int .i64 F1] _ _ r9', ext_only' (ext_only' E_abqpc (setRow_only' _ _ _) s8) (setRow_only' _ _ _) s9, fit_lies (P := fun w2 => OpsAt w2 oa on out ∧ IntsAt w2 sa sn s0 ∧ IntsAt w2 ea en st) hyg hxF n8 n9 rfl, ⟨hO4, hO5⟩, ⟨hI2, hI3⟩, ⟨hJ2, hJ3⟩, hR⟩
      · refine stepK_allocR rfl 9 rfl rfl ?_
        refine hKk.out _ _ (fun _ => HSk.out _ (cthen E_a _)) ?_
        clear hKk Kk
        obtain ⟨w_ap, hw_ap⟩ : ∃ V, (w_a).alloc (.cells #[.int .i64 0, .int .i64 0, .slice none 0 0, .slice none 0 0, .slice none 0 0] 38) = V := ⟨_, rfl⟩
        obtain ⟨B8, hB8⟩ : ∃ B, (w_a).heap.size = B := ⟨_, rfl⟩
        have hy : Ext (w_a) w_ap := by rw [← hw_ap]; exact ext_al _ _
        have r8 : w_ap.heap[B8]? = some (.cells #[.int .i64 0, .int .i64 0, .slice none 0 0, .slice none 0 0, .slice none 0 0] 38 (0, 0)) := by rw [← hw_ap, ← hB8]; exact heap_alloc_new _ _
        have s8 : W0.heap.size ≤ B8 := by rw [← hB8]; exact (E_a).size
        have E_ap : Ext W0 w_ap := (E_a).trans hy
        have hO1 := hO1.ext hy
        show anyK _ _ _ _ _ _ _ _ (Act.put _ (some 9) _) _
        simp only [Act.put, List.setIfInBounds_toArray, List.set_cons_zero, List.set_cons_succ]
        rw [hw_ap, hB8]
        clear hw_ap hB8 hy
        refine anyK_pair (i := 3) (j := 9) (by kernel_rfl) rfl rfl (fun Kk hKk => ?_) (fun Kk hKk => ?_)
        · go_simp
          (go_at_call 7; refine (HCd.out _ (E_ap)).mono ?_; rintro e w_apb ⟨b1, e1, rfl, ⟨hL1, _, _⟩, hy⟩)
          have E_apb : Ext W0 w_apb := (E_ap).trans hy
          have hO1 := hO1.ext hy
          have r8 := rowE r8 hy
          clear hy
          go_wp2_with fail
          refine hKk.out _ _ (fun _ => HSk.out _ E_apb) ?_
          clear hKk Kk
          simp only [List.setIfInBounds_toArray, List.set_cons_zero, List.set_cons_succ]
          refine anyK_pair (i := 4) (j := 9) (by kernel_rfl) rfl rfl (fun Kk hKk => ?_) (fun Kk hKk => ?_)
          · go_simp
            (go_at_call 13; refine (HFit.out _ (E_apb) a1 c1 b1 e1 hO1 k2 k3 hL1).mono ?_; rintro e wF ⟨rq, rb, oa, on, oc, sa, sn, sc, ea, en, ec, out, s0, st, rfl, ⟨hO3, hO4, hO5⟩, ⟨hI1, hI2, hI3⟩, ⟨hJ1, hJ2, hJ3⟩, hR, hyg, hy⟩)
            have E_apbc : Ext W0 wF := (E_apb).trans hy
            obtain ⟨X3, hX3⟩ : ∃ X, (w_apb).heap.size = X := ⟨_, rfl⟩
            rw [hX3] at hyg
            have n8 : B8 < X3 ∨ wF.heap.size ≤ B8 := Or.inl (by rw [← hX3]; exact lt_row r8)
            have hxF : Ext wF wF := Ext.refl _
            have r8 := rowE r8 hy
            clear hy hO1 hL1 hX3 hO3 hI1 hJ1
            go_wp2_with fail
            refine hKk.out _ _ (fun _ => HSk.out _ E_apbc) ?_
            clear hKk Kk
            simp only [List.setIfInBounds_toArray, List.set_cons_zero, List.set_cons_succ]
            refine anyK_take (i := 5) (v := ?_) rfl (by kernel_rfl) (by kernel_rfl) (by kernel_rfl) (N := 12) (by kernel_rfl) (by kernel_rfl) (by kernel_rfl) (fun _ _ _ h => h) (Or.inl ⟨by rfl, ?_⟩) (HSk.out _ E_apbc) ?_
            rotate_left 1
            · intro w hSw
              go_simp
              try with_reducible rfl
            show anyK _ _ _ _ _ _ _ _ (Act.put _ (some 23) _) _
            simp only [Act.put, List.setIfInBounds_toArray, List.set_cons_zero, List.set_cons_succ]
            refine anyK_take (i := 6) (v := ?_) rfl (by kernel_rfl) (by kernel_rfl) (by kernel_rfl) (N := 12) (by kernel_rfl) (by kernel_rfl) (by kernel_rfl) (fun _ _ _ h => h) (Or.inl ⟨by rfl, ?_⟩) (HSk.out _ E_apbc) ?_
            rotate_left 1
            · intro w hSw
              go_simp
              try with_reducible rfl
            show anyK _ _ _ _ _ _ _ _ (Act.put _ (some 29) _) _
            simp only [Act.put, List.setIfInBounds_toArray, List.set_cons_zero, List.set_cons_succ]
            refine anyK_take (i := 7) (v := ?_) rfl (by kernel_rfl) (by kernel_rfl) (by kernel_rfl) (N := 12) (by kernel_rfl) (by kernel_rfl) (by kernel_rfl) (fun _ _ _ h => h) (Or.inl ⟨by rfl, ?_⟩) (HSk.out _ E_apbc) ?_
            rotate_left 1
            · intro w hSw
              go_simp
              try with_reducible rfl
            show anyK _ _ _ _ _ _ _ _ (Act.put _ (some 30) _) _
            simp only [Act.put, List.setIfInBounds_toArray, List.set_cons_zero, List.set_cons_succ]
            refine anyK_one (i := 9) (by kernel_rfl) rfl (fun Kk hKk => ?_)
            refine stepK_allocF rfl 10 rfl rfl ?_
            refine hKk.out _ _ (fun _ => HSk.out _ (cthen E_apbc _)) ?_
            clear hKk Kk
            obtain ⟨w_apbcq, hw_apbcq⟩ : ∃ V, (wF).alloc (.cells #[.int .i64 0, .int .i64 0] 27) = V := ⟨_, rfl⟩
            obtain ⟨B9, hB9⟩ : ∃ B, (wF).heap.size = B := ⟨_, rfl⟩
            have hy : Ext (wF) w_apbcq := by rw [← hw_apbcq]; exact ext_al _ _
            have r9 : w_apbcq.heap[B9]? = some (.cells #[.int .i64 0, .int .i64 0] 27 (0, 0)) := by rw [← hw_apbcq, ← hB9]; exact heap_alloc_new _ _
            have s9 : W0.heap.size ≤ B9 := by rw [← hB9]; exact (E_apbc).size
            have E_apbcq : Ext W0 w_apbcq := (E_apbc).trans hy
            have n9 : B9 < X3 ∨ wF.heap.size ≤ B9 := Or.inr (by rw [← hB9]; exact hxF.size)
            have hxF : Ext wF w_apbcq := hxF.trans hy
            have r8 := rowE r8 hy
            show anyK _ _ _ _ _ _ _ _ (Act.put _ (some 10) _) _
            simp only [Act.put, List.setIfInBounds_toArray, List.set_cons_zero, List.set_cons_succ]
            rw [hw_apbcq, hB9]
            clear hw_apbcq hB9 hy
            have n89 := ne_rows r8 r9 (by decide)
            refine anyK_one (i := 10) (by kernel_rfl) rfl (fun Kk hKk => ?_)
            refine stepK_storeRow rfl rfl 38 _ _ rfl B8 #[.int .i64 rq, .int .i64 rb, .slice oa on oc, .slice sa sn sc, .slice ea en ec] rfl rfl 38 _ r8 rt_info rfl (by kernel_rfl) ?_
            refine hKk.out _ _ (fun _ => HSk.out _ (ext_only' E_apbcq (setRow_only' _ _ _) s8)) ?_
            clear hKk Kk
            simp only [List.setIfInBounds_toArray, List.set_cons_zero, List.set_cons_succ]
            have r9' := ((setRow_only' w_apbcq B8 #[.int .i64 rq, .int .i64 rb, .slice oa on oc, .slice sa sn sc, .slice ea en ec]).block B9 (Ne.symm n89)).trans r9
            have r8' := setRow_heap w_apbcq B8 _ #[.int .i64 rq, .int .i64 rb, .slice oa on oc, .slice sa sn sc, .slice ea en ec] _ _ r8
            refine anyK_one (i := 11) (by kernel_rfl) rfl (fun Kk hKk => ?_)
            refine stepK_storeRow rfl rfl 27 _ _ rfl B9 #[.int .i64 F0, .int .i64 F1] rfl rfl 27 _ r9' ft_info rfl (by kernel_rfl) ?_
            refine hKk.out _ _ (fun h => Bool.noConfusion (show true = false from h)) ?_
            clear hKk Kk
            simp only [List.setIfInBounds_toArray, List.set_cons_zero, List.set_cons_succ]
            refine anyK_done (by kernel_rfl) ?_ _
            go_wp2_with fail
            go_meet
            exact ⟨B8, B9, rq, rb, oa, on, oc, sa, sn, sc, ea, en, ec, out, s0, st, rfl, rfl, ((setRow_only' _ B9 #[.int .i64 F0, .int .i64 F1]).block B8 n89).trans r8', setRow_heap _ B9 _ #[.int .i64 F0, .int .i64 F1] _ _ r9', ext_only' (ext_only' E_apbcq (setRow_only' _ _ _) s8) (setRow_only' _ _ _) s9, fit_lies (P := fun w2 => OpsAt w2 oa on out ∧ IntsAt w2 sa sn s0 ∧ IntsAt w2 ea en st) hyg hxF n8 n9 rfl, ⟨hO4, hO5⟩, ⟨hI2, hI3⟩, ⟨hJ2, hJ3⟩, hR⟩
          · refine stepK_allocF rfl 10 rfl rfl ?_
            refine hKk.out _ _ (fun _ => HSk.out _ (cthen E_apb _)) ?_
            clear hKk Kk
            obtain ⟨w_apbq, hw_apbq⟩ : ∃ V, (w_apb).alloc (.cells #[.int .i64 0, .int .i64 0] 27) = V := ⟨_, rfl⟩
            obtain ⟨B9, hB9⟩ : ∃ B, (w_apb).heap.size = B := ⟨_, rfl⟩
            have hy : Ext (w_apb) w_apbq := by rw [← hw_apbq]; exact ext_al _ _
            have r9 : w_apbq.heap[B9]? = some (.cells #[.int .i64 0, .int .i64 0] 27 (0, 0)) := by rw [← hw_apbq, ← hB9]; exact heap_alloc_new _ _
            have s9 : W0.heap.size ≤ B9 := by rw [← hB9]; exact (E_apb).size
            have E_apbq : Ext W0 w_apbq := (E_apb).trans hy
            have r8 := rowE r8 hy
            have hO1 := hO1.ext hy
            have hL1 := hL1.ext hy
            show anyK _ _ _ _ _ _ _ _ (Act.put _ (some 10) _) _
            simp only [Act.put, List.setIfInBounds_toArray, List.set_cons_zero, List.set_cons_succ]
            rw [hw_apbq, hB9]
            clear hw_apbq hB9 hy
            refine anyK_one (i := 4) (by kernel_rfl) rfl (fun Kk hKk => ?_)
            go_simp
            (go_at_call 13; refine (HFit.out _ (E_apbq) a1 c1 b1 e1 hO1 k2 k3 hL1).mono ?_; rintro e wF ⟨rq, rb, oa, on, oc, sa, sn, sc, ea, en, ec, out, s0, st, rfl, ⟨hO3, hO4, hO5⟩, ⟨hI1, hI2, hI3⟩, ⟨hJ1, hJ2, hJ3⟩, hR, hyg, hy⟩)
            have E_apbqc : Ext W0 wF := (E_apbq).trans hy
            obtain ⟨X3, hX3⟩ : ∃ X, (w_apbq).heap.size = X := ⟨_, rfl⟩
            rw [hX3] at hyg
            have n8 : B8 < X3 ∨ wF.heap.size ≤ B8 := Or.inl (by rw [← hX3]; exact lt_row r8)
            have n9 : B9 < X3 ∨ wF.heap.size ≤ B9 := Or.inl (by rw [← hX3]; exact lt_row r9)
            have hxF : Ext wF wF := Ext.refl _
            have r8 := rowE r8 hy
            have r9 := rowE r9 hy
            clear hy hO1 hL1 hX3 hO3 hI1 hJ1
            go_wp2_with fail
            refine hKk.out _ _ (fun _ => HSk.out _ E_apbqc) ?_
            clear hKk Kk
            simp only [List.setIfInBounds_toArray, List.set_cons_zero, List.set_cons_succ]
            refine anyK_take (i := 5) (v := ?_) rfl (by kernel_rfl) (by kernel_rfl) (by kernel_rfl) (N := 12) (by kernel_rfl) (by kernel_rfl) (by kernel_rfl) (fun _ _ _ h => h) (Or.inl ⟨by rfl, ?_⟩) (HSk.out _ E_apbqc) ?_
            rotate_left 1
            · intro w hSw
              go_simp
              try with_reducible rfl
            show anyK _ _ _ _ _ _ _ _ (Act.put _ (some 23) _) _
            simp only [Act.put, List.setIfInBounds_toArray, List.set_cons_zero, List.set_cons_succ]
            refine anyK_take (i := 6) (v := ?_) rfl (by kernel_rfl) (by kernel_rfl) (by kernel_rfl) (N := 12) (by kernel_rfl) (by kernel_rfl) (by kernel_rfl) (fun _ _ _ h => h) (Or.inl ⟨by rfl, ?_⟩) (HSk.out _ E_apbqc) ?_
            rotate_left 1
            · intro w hSw
              go_simp
              try with_reducible rfl
            show anyK _ _ _ _ _ _ _ _ (Act.put _ (some 29) _) _
            simp only [Act.put, List.setIfInBounds_toArray, List.set_cons_zero, List.set_cons_succ]
            refine anyK_take (i := 7) (v := ?_) rfl (by kernel_rfl) (by kernel_rfl) (by kernel_rfl) (N := 12) (by kernel_rfl) (by kernel_rfl) (by kernel_rfl) (fun _ _ _ h => h) (Or.inl ⟨by rfl, ?_⟩) (HSk.out _ E_apbqc) ?_
            rotate_left 1
            · intro w hSw
              go_simp
              try with_reducible rfl
            show anyK _ _ _ _ _ _ _ _ (Act.put _ (some 30) _) _
            simp only [Act.put, List.setIfInBounds_toArray, List.set_cons_zero, List.set_cons_succ]
            have n89 := ne_rows r8 r9 (by decide)
            refine anyK_one (i := 10) (by kernel_rfl) rfl (fun Kk hKk => ?_)
            refine stepK_storeRow rfl rfl 38 _ _ rfl B8 #[.int .i64 rq, .int .i64 rb, .slice oa on oc, .slice sa sn sc, .slice ea en ec] rfl rfl 38 _ r8 rt_info rfl (by kernel_rfl) ?_
            refine hKk.out _ _ (fun _ => HSk.out _ (ext_only' E_apbqc (setRow_only' _ _ _) s8)) ?_
            clear hKk Kk
            simp only [List.setIfInBounds_toArray, List.set_cons_zero, List.set_cons_succ]
            have r9' := ((setRow_only' wF B8 #[.int .i64 rq, .int .i64 rb, .slice oa on oc, .slice sa sn sc, .slice ea en ec]).block B9 (Ne.symm n89)).trans r9
            have r8' := setRow_heap wF B8 _ #[.int .i64 rq, .int .i64 rb, .slice oa on oc, .slice sa sn sc, .slice ea en ec] _ _ r8
            refine anyK_one (i := 11) (by kernel_rfl) rfl (fun Kk hKk => ?_)
            refine stepK_storeRow rfl rfl 27 _ _ rfl B9 #[.int .i64 F0, .int .i64 F1] rfl rfl 27 _ r9' ft_info rfl (by kernel_rfl) ?_
            refine hKk.out _ _ (fun h => Bool.noConfusion (show true = false from h)) ?_
            clear hKk Kk
            simp only [List.setIfInBounds_toArray, List.set_cons_zero, List.set_cons_succ]
            refine anyK_done (by kernel_rfl) ?_ _
            go_wp2_with fail
            go_meet
            exact ⟨B8, B9, rq, rb, oa, on, oc, sa, sn, sc, ea, en, ec, out, s0, st, rfl, rfl, ((setRow_only' _ B9 #[.int .i64 F0, .int .i64 F1]).block B8 n89).trans r8', setRow_heap _ B9 _ #[.int .i64 F0, .int .i64 F1] _ _ r9', ext_only' (ext_only' E_apbqc (setRow_only' _ _ _) s8) (setRow_only' _ _ _) s9, fit_lies (P := fun w2 => OpsAt w2 oa on out ∧ IntsAt w2 sa sn s0 ∧ IntsAt w2 ea en st) hyg hxF n8 n9 rfl, ⟨hO4, hO5⟩, ⟨hI2, hI3⟩, ⟨hJ2, hJ3⟩, hR⟩
        · refine stepK_allocF rfl 10 rfl rfl ?_
          refine hKk.out _ _ (fun _ => HSk.out _ (cthen E_ap _)) ?_
          clear hKk Kk
          obtain ⟨w_apq, hw_apq⟩ : ∃ V, (w_ap).alloc (.cells #[.int .i64 0, .int .i64 0] 27) = V := ⟨_, rfl⟩
          obtain ⟨B9, hB9⟩ : ∃ B, (w_ap).heap.size = B := ⟨_, rfl⟩
          have hy : Ext (w_ap) w_apq := by rw [← hw_apq]; exact ext_al _ _
          have r9 : w_apq.heap[B9]? = some (.cells #[.int .i64 0, .int .i64 0] 27 (0, 0)) := by rw [← hw_apq, ← hB9]; exact heap_alloc_new _ _
          have s9 : W0.heap.size ≤ B9 := by rw [← hB9]; exact (E_ap).size
          have E_apq : Ext W0 w_apq := (E_ap).trans hy
          have r8 := rowE r8 hy
          have hO1 := hO1.ext hy
          show anyK _ _ _ _ _ _ _ _ (Act.put _ (some 10) _) _
          simp only [Act.put, List.setIfInBounds_toArray, List.set_cons_zero, List.set_cons_succ]
          rw [hw_apq, hB9]
          clear hw_apq hB9 hy
          refine anyK_one (i := 3) (by kernel_rfl) rfl (fun Kk hKk => ?_)
          go_simp
          (go_at_call 7; refine (HCd.out _ (E_apq)).mono ?_; rintro e w_apqb ⟨b1, e1, rfl, ⟨hL1, _, _⟩, hy⟩)
          have E_apqb : Ext W0 w_apqb := (E_apq).trans hy
          have hO1 := hO1.ext hy
          have r8 := rowE r8 hy
          have r9 := rowE r9 hy
          clear hy
          go_wp2_with fail
          refine hKk.out _ _ (fun _ => HSk.out _ E_apqb) ?_
          clear hKk Kk
          simp only [List.setIfInBounds_toArray, List.set_cons_zero, List.set_cons_succ]
          refine anyK_one (i := 4) (by kernel_rfl) rfl (fun Kk hKk => ?_)
          go_simp
          (go_at_call 13; refine (HFit.out _ (E_apqb) a1 c1 b1 e1 hO1 k2 k3 hL1).mono ?_; rintro e wF ⟨rq, rb, oa, on, oc, sa, sn, sc, ea, en, ec, out, s0, st, rfl, ⟨hO3, hO4, hO5⟩, ⟨hI1, hI2, hI3⟩, ⟨hJ1, hJ2, hJ3⟩, hR, hyg, hy⟩)
          have E_apqbc : Ext W0 wF := (E_apqb).trans hy
          obtain ⟨X3, hX3⟩ : ∃ X, (w_apqb).heap.size = X := ⟨_, rfl⟩
          rw [hX3] at hyg
          have n8 : B8 < X3 ∨ wF.heap.size ≤ B8 := Or.inl (by rw [← hX3]; exact lt_row r8)
          have n9 : B9 < X3 ∨ wF.heap.size ≤ B9 := Or.inl (by rw [← hX3]; exact lt_row r9)
          have hxF : Ext wF wF := Ext.refl _
          have r8 := rowE r8 hy
          have r9 := rowE r9 hy
          clear hy hO1 hL1 hX3 hO3 hI1 hJ1
          go_wp2_with fail
          refine hKk.out _ _ (fun _ => HSk.out _ E_apqbc) ?_
          clear hKk Kk
          simp only [List.setIfInBounds_toArray, List.set_cons_zero, List.set_cons_succ]
          refine anyK_take (i := 5) (v := ?_) rfl (by kernel_rfl) (by kernel_rfl) (by kernel_rfl) (N := 12) (by kernel_rfl) (by kernel_rfl) (by kernel_rfl) (fun _ _ _ h => h) (Or.inl ⟨by rfl, ?_⟩) (HSk.out _ E_apqbc) ?_
          rotate_left 1
          · intro w hSw
            go_simp
            try with_reducible rfl
          show anyK _ _ _ _ _ _ _ _ (Act.put _ (some 23) _) _
          simp only [Act.put, List.setIfInBounds_toArray, List.set_cons_zero, List.set_cons_succ]
          refine anyK_take (i := 6) (v := ?_) rfl (by kernel_rfl) (by kernel_rfl) (by kernel_rfl) (N := 12) (by kernel_rfl) (by kernel_rfl) (by kernel_rfl) (fun _ _ _ h => h) (Or.inl ⟨by rfl, ?_⟩) (HSk.out _ E_apqbc) ?_
          rotate_left 1
          · intro w hSw
            go_simp
            try with_reducible rfl
          show anyK _ _ _ _ _ _ _ _ (Act.put _ (some 29) _) _
          simp only [Act.put, List.setIfInBounds_toArray, List.set_cons_zero, List.set_cons_succ]
          refine anyK_take (i := 7) (v := ?_) rfl (by kernel_rfl) (by kernel_rfl) (by kernel_rfl) (N := 12) (by kernel_rfl) (by kernel_rfl) (by kernel_rfl) (fun _ _ _ h => h) (Or.inl ⟨by rfl, ?_⟩) (HSk.out _ E_apqbc) ?_
          rotate_left 1
          · intro w hSw
            go_simp
            try with_reducible rfl
          show anyK _ _ _ _ _ _ _ _ (Act.put _ (some 30) _) _
          simp only [Act.put, List.setIfInBounds_toArray, List.set_cons_zero, List.set_cons_succ]
          have n89 := ne_rows r8 r9 (by decide)
          refine anyK_one (i := 10) (by kernel_rfl) rfl (fun Kk hKk => ?_)
          refine stepK_storeRow rfl rfl 38 _ _ rfl B8 #[.int .i64 rq, .int .i64 rb, .slice oa on oc, .slice sa sn sc, .slice ea en ec] rfl rfl 38 _ r8 rt_info rfl (by kernel_rfl) ?_
          refine hKk.out _ _ (fun _ => HSk.out _ (ext_only' E_apqbc (setRow_only' _ _ _) s8)) ?_
          clear hKk Kk
          simp only [List.setIfInBounds_toArray, List.set_cons_zero, List.set_cons_succ]
          have r9' := ((setRow_only' wF B8 #[.int .i64 rq, .int .i64 rb, .slice oa on oc, .slice sa sn sc, .slice ea en ec]).block B9 (Ne.symm n89)).trans r9
          have r8' := setRow_heap wF B8 _ #[.int .i64 rq, .int .i64 rb, .slice oa on oc, .slice sa sn sc, .slice ea en ec] _ _ r8
          refine anyK_one (i := 11) (by kernel_rfl) rfl (fun Kk hKk => ?_)
          refine stepK_storeRow rfl rfl 27 _ _ rfl B9 #[.int .i64 F0, .int .i64 F1] rfl rfl 27 _ r9' ft_info rfl (by kernel_rfl) ?_
          refine hKk.out _ _ (fun h => Bool.noConfusion (show true = false from h)) ?_
          clear hKk Kk
          simp only [List.setIfInBounds_toArray, List.set_cons_zero, List.set_cons_succ]
          refine anyK_done (by kernel_rfl) ?_ _
          go_wp2_with fail
          go_meet
          exact ⟨B8, B9, rq, rb, oa, on, oc, sa, sn, sc, ea, en, ec, out, s0, st, rfl, rfl, ((setRow_only' _ B9 #[.int .i64 F0, .int .i64 F1]).block B8 n89).trans r8', setRow_heap _ B9 _ #[.int .i64 F0, .int .i64 F1] _ _ r9', ext_only' (ext_only' E_apqbc (setRow_only' _ _ _) s8) (setRow_only' _ _ _) s9, fit_lies (P := fun w2 => OpsAt w2 oa on out ∧ IntsAt w2 sa sn s0 ∧ IntsAt w2 ea en st) hyg hxF n8 n9 rfl, ⟨hO4, hO5⟩, ⟨hI2, hI3⟩, ⟨hJ2, hJ3⟩, hR⟩
      · refine stepK_allocF rfl 10 rfl rfl ?_
        refine hKk.out _ _ (fun _ => HSk.out _ (cthen E_a _)) ?_
        clear hKk Kk
        obtain ⟨w_aq, hw_aq⟩ : ∃ V, (w_a).alloc (.cells #[.int .i64 0, .int .i64 0] 27) = V := ⟨_, rfl⟩
        obtain ⟨B9, hB9⟩ : ∃ B, (w_a).heap.size = B := ⟨_, rfl⟩
        have hy : Ext (w_a) w_aq := by rw [← hw_aq]; exact ext_al _ _
        have r9 : w_aq.heap[B9]? = some (.cells #[.int .i64 0, .int .i64 0] 27 (0, 0)) := by rw [← hw_aq, ← hB9]; exact heap_alloc_new _ _
        have s9 : W0.heap.size ≤ B9 := by rw [← hB9]; exact (E_a).size
        have E_aq : Ext W0 w_aq := (E_a).trans hy
        have hO1 := hO1.ext hy
        show anyK _ _ _ _ _ _ _ _ (Act.put _ (some 10) _) _
        simp only [Act.put, List.setIfInBounds_toArray, List.set_cons_zero, List.set_cons_succ]
        rw [hw_aq, hB9]
        clear hw_aq hB9 hy
        refine anyK_pair (i := 3) (j := 8) (by kernel_rfl) rfl rfl (fun Kk hKk => ?_) (fun Kk hKk => ?_)
        · go_simp
          (go_at_call 7; refine (HCd.out _ (E_aq)).mono ?_; rintro e w_aqb ⟨b1, e1, rfl, ⟨hL1, _, _⟩, hy⟩)
          have E_aqb : Ext W0 w_aqb := (E_aq).trans hy
          have hO1 := hO1.ext hy
          have r9 := rowE r9 hy
          clear hy
          go_wp2_with fail
          refine hKk.out _ _ (fun _ => HSk.out _ E_aqb) ?_
          clear hKk Kk
          simp only [List.setIfInBounds_toArray, List.set_cons_zero, List.set_cons_succ]
          refine anyK_pair (i := 4) (j := 8) (by kernel_rfl) rfl rfl (fun Kk hKk => ?_) (fun Kk hKk => ?_)
          · go_simp
            (go_at_call 13; refine (HFit.out _ (E_aqb) a1 c1 b1 e1 hO1 k2 k3 hL1).mono ?_; rintro e wF ⟨rq, rb, oa, on, oc, sa, sn, sc, ea, en, ec, out, s0, st, rfl, ⟨hO3, hO4, hO5⟩, ⟨hI1, hI2, hI3⟩, ⟨hJ1, hJ2, hJ3⟩, hR, hyg, hy⟩)
            have E_aqbc : Ext W0 wF := (E_aqb).trans hy
            obtain ⟨X3, hX3⟩ : ∃ X, (w_aqb).heap.size = X := ⟨_, rfl⟩
            rw [hX3] at hyg
            have n9 : B9 < X3 ∨ wF.heap.size ≤ B9 := Or.inl (by rw [← hX3]; exact lt_row r9)
            have hxF : Ext wF wF := Ext.refl _
            have r9 := rowE r9 hy
            clear hy hO1 hL1 hX3 hO3 hI1 hJ1
            go_wp2_with fail
            refine hKk.out _ _ (fun _ => HSk.out _ E_aqbc) ?_
            clear hKk Kk
            simp only [List.setIfInBounds_toArray, List.set_cons_zero, List.set_cons_succ]
            refine anyK_take (i := 5) (v := ?_) rfl (by kernel_rfl) (by kernel_rfl) (by kernel_rfl) (N := 12) (by kernel_rfl) (by kernel_rfl) (by kernel_rfl) (fun _ _ _ h => h) (Or.inl ⟨by rfl, ?_⟩) (HSk.out _ E_aqbc) ?_
            rotate_left 1
            · intro w hSw
              go_simp
              try with_reducible rfl
            show anyK _ _ _ _ _ _ _ _ (Act.put _ (some 23) _) _
            simp only [Act.put, List.setIfInBounds_toArray, List.set_cons_zero, List.set_cons_succ]
            refine anyK_take (i := 6) (v := ?_) rfl (by kernel_rfl) (by kernel_rfl) (by kernel_rfl) (N := 12) (by kernel_rfl) (by kernel_rfl) (by kernel_rfl) (fun _ _ _ h => h) (Or.inl ⟨by rfl, ?_⟩) (HSk.out _ E_aqbc) ?_
            rotate_left 1
            · intro w hSw
              go_simp
              try with_reducible rfl
            show anyK _ _ _ _ _ _ _ _ (Act.put _ (some 29) _) _
            simp only [Act.put, List.setIfInBounds_toArray, List.set_cons_zero, List.set_cons_succ]
            refine anyK_take (i := 7) (v := ?_) rfl (by kernel_rfl) (by kernel_rfl) (by kernel_rfl) (N := 12) (by kernel_rfl) (by kernel_rfl) (by kernel_rfl) (fun _ _ _ h => h) (Or.inl ⟨by rfl, ?_⟩) (HSk.out _ E_aqbc) ?_
            rotate_left 1
            · intro w hSw
              go_simp
              try with_reducible rfl
            show anyK _ _ _ _ _ _ _ _ (Act.put _ (some 30) _) _
            simp only [Act.put, List.setIfInBounds_toArray, List.set_cons_zero, List.set_cons_succ]
            refine anyK_one (i := 8) (by kernel_rfl) rfl (fun Kk hKk => ?_)
            refine stepK_allocR rfl 9 rfl rfl ?_
            refine hKk.out _ _ (fun _ => HSk.out _ (cthen E_aqbc _)) ?_
            clear hKk Kk
            obtain ⟨w_aqbcp, hw_aqbcp⟩ : ∃ V, (wF).alloc (.cells #[.int .i64 0, .int .i64 0, .slice none 0 0, .slice none 0 0, .slice none 0 0] 38) = V := ⟨_, rfl⟩
            obtain ⟨B8, hB8⟩ : ∃ B, (wF).heap.size = B := ⟨_, rfl⟩
            have hy : Ext (wF) w_aqbcp := by rw [← hw_aqbcp]; exact ext_al _ _
            have r8 : w_aqbcp.heap[B8]? = some (.cells #[.int .i64 0, .int .i64 0, .slice none 0 0, .slice none 0 0, .slice none 0 0] 38 (0, 0)) := by rw [← hw_aqbcp, ← hB8]; exact heap_alloc_new _ _
            have s8 : W0.heap.size ≤ B8 := by rw [← hB8]; exact (E_aqbc).size
            have E_aqbcp : Ext W0 w_aqbcp := (E_aqbc).trans hy
            have n8 : B8 < X3 ∨ wF.heap.size ≤ B8 := Or.inr (by rw [← hB8]; exact hxF.size)
            have hxF : Ext wF w_aqbcp := hxF.trans hy
            have r9 := rowE r9 hy
            show anyK _ _ _ _ _ _ _ _ (Act.put _ (some 9) _) _
            simp only [Act.put, List.setIfInBounds_toArray, List.set_cons_zero, List.set_cons_succ]
            rw [hw_aqbcp, hB8]
            clear hw_aqbcp hB8 hy
            have n89 := ne_rows r8 r9 (by decide)
            refine anyK_one (i := 10) (by kernel_rfl) rfl (fun Kk hKk => ?_)
            refine stepK_storeRow rfl rfl 38 _ _ rfl B8 #[.int .i64 rq, .int .i64 rb, .slice oa on oc, .slice sa sn sc, .slice ea en ec] rfl rfl 38 _ r8 rt_info rfl (by kernel_rfl) ?_
            refine hKk.out _ _ (fun _ => HSk.out _ (ext_only' E_aqbcp (setRow_only' _ _ _) s8)) ?_
            clear hKk Kk
            simp only [List.setIfInBounds_toArray, List.set_cons_zero, List.set_cons_succ]
            have r9' := ((setRow_only' w_aqbcp B8 #[.int .i64 rq, .int .i64 rb, .slice oa on oc, .slice sa sn sc, .slice ea en ec]).block B9 (Ne.symm n89)).trans r9
            have r8' := setRow_heap w_aqbcp B8 _ #[.int .i64 rq, .int .i64 rb, .slice oa on oc, .slice sa sn sc, .slice ea en ec] _ _ r8
            refine anyK_one (i := 11) (by kernel_rfl) rfl (fun Kk hKk => ?_)
            refine stepK_storeRow rfl rfl 27 _ _ rfl B9 #[.int .i64 F0, .int .i64 F1] rfl rfl 27 _ r9' ft_info rfl (by kernel_rfl) ?_
            refine hKk.out _ _ (fun h => Bool.noConfusion (show true = false from h)) ?_
            clear hKk Kk
            simp only [List.setIfInBounds_toArray, List.set_cons_zero, List.set_cons_succ]
            refine anyK_done (by kernel_rfl) ?_ _
            go_wp2_with fail
            go_meet
            exact ⟨B8, B9, rq, rb, oa, on, oc, sa, sn, sc, ea, en, ec, out, s0, st, rfl, rfl, ((setRow_only' _ B9 #[.int .i64 F0, .int .i64 F1]).block B8 n89).trans r8', setRow_heap _ B9 _ #[.int .i64 F0, .int .i64 F1] _ _ r9', ext_only' (ext_only' E_aqbcp (setRow_only' _ _ _) s8) (setRow_only' _ _ _) s9, fit_lies (P := fun w2 => OpsAt w2 oa on out ∧ IntsAt w2 sa sn s0 ∧ IntsAt w2 ea en st) hyg hxF n8 n9 rfl, ⟨hO4, hO5⟩, ⟨hI2, hI3⟩, ⟨hJ2, hJ3⟩, hR⟩
          · refine stepK_allocR rfl 9 rfl rfl ?_
            refine hKk.out _ _ (fun _ => HSk.out _ (cthen E_aqb _)) ?_
            clear hKk Kk
            obtain ⟨w_aqbp, hw_aqbp⟩ : ∃ V, (w_aqb).alloc (.cells #[.int .i64 0, .int .i64 0, .slice none 0 0, .slice none 0 0, .slice none 0 0] 38) = V := ⟨_, rfl⟩
            obtain ⟨B8, hB8⟩ : ∃ B, (w_aqb).heap.size = B := ⟨_, rfl⟩
            have hy : Ext (w_aqb) w_aqbp := by rw [← hw_aqbp]; exact ext_al _ _
            have r8 : w_aqbp.heap[B8]? = some (.cells #[.int .i64 0, .int .i64 0, .slice none 0 0, .slice none 0 0, .slice none 0 0] 38 (0, 0)) := by rw [← hw_aqbp, ← hB8]; exact heap_alloc_new _ _
            have s8 : W0.heap.size ≤ B8 := by rw [← hB8]; exact (E_aqb).size
            have E_aqbp : Ext W0 w_aqbp := (E_aqb).trans hy
            have r9 := rowE r9 hy
            have hO1 := hO1.ext hy
            have hL1 := hL1.ext hy
            show anyK _ _ _ _ _ _ _ _ (Act.put _ (some 9) _) _
            simp only [Act.put, List.setIfInBounds_toArray, List.set_cons_zero, List.set_cons_succ]
            rw [hw_aqbp, hB8]
            clear hw_aqbp hB8 hy
            refine anyK_one (i := 4) (by kernel_rfl) rfl (fun Kk hKk => ?_)
            go_simp
            (go_at_call 13; refine (HFit.out _ (E_aqbp) a1 c1 b1 e1 hO1 k2 k3 hL1).mono ?_; rintro e wF ⟨rq, rb, oa, on, oc, sa, sn, sc, ea, en, ec, out, s0, st, rfl, ⟨hO3, hO4, hO5⟩, ⟨hI1, hI2, hI3⟩, ⟨hJ1, hJ2, hJ3⟩, hR, hyg, hy⟩)
            have E_aqbpc : Ext W0 wF := (E_aqbp).trans hy
            obtain ⟨X3, hX3⟩ : ∃ X, (w_aqbp).heap.size = X := ⟨_, rfl⟩
            rw [hX3] at hyg
            have n9 : B9 < X3 ∨ wF.heap.size ≤ B9 := Or.inl (by rw [← hX3]; exact lt_row r9)
            have n8 : B8 < X3 ∨ wF.heap.size ≤ B8 := Or.inl (by rw [← hX3]; exact lt_row r8)
            have hxF : Ext wF wF := Ext.refl _
            have r9 := rowE r9 hy
            have r8 := rowE r8 hy
            clear hy hO1 hL1 hX3 hO3 hI1 hJ1
            go_wp2_with fail
            refine hKk.out _ _ (fun _ => HSk.out _ E_aqbpc) ?_
            clear hKk Kk
            simp only [List.setIfInBounds_toArray, List.set_cons_zero, List.set_cons_succ]
            refine anyK_take (i := 5) (v := ?_) rfl (by kernel_rfl) (by kernel_rfl) (by kernel_rfl) (N := 12) (by kernel_rfl) (by kernel_rfl) (by kernel_rfl) (fun _ _ _ h => h) (Or.inl ⟨by rfl, ?_⟩) (HSk.out _ E_aqbpc) ?_
            rotate_left 1
            · intro w hSw
              go_simp
              try with_reducible rfl
            show anyK _ _ _ _ _ _ _ _ (Act.put _ (some 23) _) _
            simp only [Act.put, List.setIfInBounds_toArray, List.set_cons_zero, List.set_cons_succ]
            refine anyK_take (i := 6) (v := ?_) rfl (by kernel_rfl) (by kernel_rfl) (by kernel_rfl) (N := 12) (by kernel_rfl) (by kernel_rfl) (by kernel_rfl) (fun _ _ _ h => h) (Or.inl ⟨by rfl, ?_⟩) (HSk.out _ E_aqbpc) ?_
            rotate_left 1
            · intro w hSw
              go_simp
              try with_reducible rfl
            show anyK _ _ _ _ _ _ _ _ (Act.put _ (some 29) _) _
            simp only [Act.put, List.setIfInBounds_toArray, List.set_cons_zero, List.set_cons_succ]
            refine anyK_take (i := 7) (v := ?_) rfl (by kernel_rfl) (by kernel_rfl) (by kernel_rfl) (N := 12) (by kernel_rfl) (by kernel_rfl) (by kernel_rfl) (fun _ _ _ h => h) (Or.inl ⟨by rfl, ?_⟩) (HSk.out _ E_aqbpc) ?_
            rotate_left 1
            · intro w hSw
              go_simp
              try with_reducible rfl
            show anyK _ _ _ _ _ _ _ _ (Act.put _ (some 30) _) _
            simp only [Act.put, List.setIfInBounds_toArray, List.set_cons_zero, List.set_cons_succ]
            have n89 := ne_rows r8 r9 (by decide)
            refine anyK_one (i := 10) (by kernel_rfl) rfl (fun Kk hKk => ?_)
            refine stepK_storeRow rfl rfl 38 _ _ rfl B8 #[.int .i64 rq, .int .i64 rb, .slice oa on oc, .slice sa sn sc, .slice ea en ec] rfl rfl 38 _ r8 rt_info rfl (by kernel_rfl) ?_
            refine hKk.out _ _ (fun _ => HSk.out _ (ext_only' E_aqbpc (setRow_only' _ _ _) s8)) ?_
            clear hKk Kk
            simp only [List.setIfInBounds_toArray, List.set_cons_zero, List.set_cons_succ]
            have r9' := ((setRow_only' wF B8 #[.int .i64 rq, .int .i64 rb, .slice oa on oc, .slice sa sn sc, .slice ea en ec]).block B9 (Ne.symm n89)).trans r9
            have r8' := setRow_heap wF B8 _ #[.int .i64 rq, .int .i64 rb, .slice oa on oc, .slice sa sn sc, .slice ea en ec] _ _ r8
            refine anyK_one (i := 11) (by kernel_rfl) rfl (fun Kk hKk => ?_)
            refine stepK_storeRow rfl rfl 27 _ _ rfl B9 #[.int .i64 F0, .int .i64 F1] rfl rfl 27 _ r9' ft_info rfl (by kernel_rfl) ?_
            refine hKk.out _ _ (fun h => Bool.noConfusion (show true = false from h)) ?_
            clear hKk Kk
            simp only [List.setIfInBounds_toArray, List.set_cons_zero, List.set_cons_succ]
            refine anyK_done (by kernel_rfl) ?_ _
            go_wp2_with fail
            go_meet
            exact ⟨B8, B9, rq, rb, oa, on, oc, sa, sn, sc, ea, en, ec, out, s0, st, rfl, rfl, ((setRow_only' _ B9 #[.int .i64 F0, .int .i64 F1]).block B8 n89).trans r8', setRow_heap _ B9 _ #[.int .i64 F0, .int .i64 F1] _ _ r9', ext_only' (ext_only' E_aqbpc (setRow_only' _ _ _) s8) (setRow_only' _ _ _) s9, fit_lies (P := fun w2 => OpsAt w2 oa on out ∧ IntsAt w2 sa sn s0 ∧ IntsAt w2 ea en st) hyg hxF n8 n9 rfl, ⟨hO4, hO5⟩, ⟨hI2, hI3⟩, ⟨hJ2, hJ3⟩, hR⟩
        · refine stepK_allocR rfl 9 rfl rfl ?_
          refine hKk.out _ _ (fun _ => HSk.out _ (cthen E_aq _)) ?_
          clear hKk Kk
          obtain ⟨w_aqp, hw_aqp⟩ : ∃ V, (w_aq).alloc (.cells #[.int .i64 0, .int .i64 0, .slice none 0 0, .slice none 0 0, .slice none 0 0] 38) = V := ⟨_, rfl⟩
          obtain ⟨B8, hB8⟩ : ∃ B, (w_aq).heap.size = B := ⟨_, rfl⟩
          have hy : Ext (w_aq) w_aqp := by rw [← hw_aqp]; exact ext_al _ _
          have r8 : w_aqp.heap[B8]? = some (.cells #[.int .i64 0, .int .i64 0, .slice none 0 0, .slice none 0 0, .slice none 0 0] 38 (0, 0)) := by rw [← hw_aqp, ← hB8]; exact heap_alloc_new _ _
          have s8 : W0.heap.size ≤ B8 := by rw [← hB8]; exact (E_aq).size
          have E_aqp : Ext W0 w_aqp := (E_aq).trans hy
          have r9 := rowE r9 hy
          have hO1 := hO1.ext hy
          show anyK _ _ _ _ _ _ _ _ (Act.put _ (some 9) _) _
          simp only [Act.put, List.setIfInBounds_toArray, List.set_cons_zero, List.set_cons_succ]
          rw [hw_aqp, hB8]
          clear hw_aqp hB8 hy
          refine anyK_one (i := 3) (by kernel_rfl) rfl (fun Kk hKk => ?_)
          go_simp
          (go_at_call 7; refine (HCd.out _ (E_aqp)).mono ?_; rintro e w_aqpb ⟨b1, e1, rfl, ⟨hL1, _, _⟩, hy⟩)
          have E_aqpb : Ext W0 w_aqpb := (E_aqp).trans hy
          have hO1 := hO1.ext hy
          have r9 := rowE r9 hy
          have r8 := rowE r8 hy
          clear hy
          go_wp2_with fail
          refine hKk.out _ _ (fun _ => HSk.out _ E_aqpb) ?_
          clear hKk Kk
          simp only [List.setIfInBounds_toArray, List.set_cons_zero, List.set_cons_succ]
          refine anyK_one (i := 4) (by kernel_rfl) rfl (fun Kk hKk => ?_)
          go_simp
          (go_at_call 13; refine (HFit.out _ (E_aqpb) a1 c1 b1 e1 hO1 k2 k3 hL1).mono ?_; rintro e wF ⟨rq, rb, oa, on, oc, sa, sn, sc, ea, en, ec, out, s0, st, rfl, ⟨hO3, hO4, hO5⟩, ⟨hI1, hI2, hI3⟩, ⟨hJ1, hJ2, hJ3⟩, hR, hyg, hy⟩)
          have E_aqpbc : Ext W0 wF := (E_aqpb).trans hy
          obtain ⟨X3, hX3⟩ : ∃ X, (w_aqpb).heap.size = X := ⟨_, rfl⟩
          rw [hX3] at hyg
          have n9 : B9 < X3 ∨ wF.heap.size ≤ B9 := Or.inl (by rw [← hX3]; exact lt_row r9)
          have n8 : B8 < X3 ∨ wF.heap.size ≤ B8 := Or.inl (by rw [← hX3]; exact lt_row r8)
          have hxF : Ext wF wF := Ext.refl _
          have r9 := rowE r9 hy
          have r8 := rowE r8 hy
          clear hy hO1 hL1 hX3 hO3 hI1 hJ1
          go_wp2_with fail
          refine hKk.out _ _ (fun _ => HSk.out _ E_aqpbc) ?_
          clear hKk Kk
          simp only [List.setIfInBounds_toArray, List.set_cons_zero, List.set_cons_succ]
          refine anyK_take (i := 5) (v := ?_) rfl (by kernel_rfl) (by kernel_rfl) (by kernel_rfl) (N := 12) (by kernel_rfl) (by kernel_rfl) (by kernel_rfl) (fun _ _ _ h => h) (Or.inl ⟨by rfl, ?_⟩) (HSk.out _ E_aqpbc) ?_
          rotate_left 1
          · intro w hSw
            go_simp
            try with_reducible rfl
          show anyK _ _ _ _ _ _ _ _ (Act.put _ (some 23) _) _
          simp only [Act.put, List.setIfInBounds_toArray, List.set_cons_zero, List.set_cons_succ]
          refine anyK_take (i := 6) (v := ?_) rfl (by kernel_rfl) (by kernel_rfl) (by kernel_rfl) (N := 12) (by kernel_rfl) (by kernel_rfl) (by kernel_rfl) (fun _ _ _ h => h) (Or.inl ⟨by rfl, ?_⟩) (HSk.out _ E_aqpbc) ?_
          rotate_left 1
          · intro w hSw
            go_simp
            try with_reducible rfl
          show anyK _ _ _ _ _ _ _ _ (Act.put _ (some 29) _) _
          simp only [Act.put, List.setIfInBounds_toArray, List.set_cons_zero, List.set_cons_succ]
          refine anyK_take (i := 7) (v := ?_) rfl (by kernel_rfl) (by kernel_rfl) (by kernel_rfl) (N := 12) (by kernel_rfl) (by kernel_rfl) (by kernel_rfl) (fun _ _ _ h => h) (Or.inl ⟨by rfl, ?_⟩) (HSk.out _ E_aqpbc) ?_
          rotate_left 1
          · intro w hSw
            go_simp
            try with_reducible rfl
          show anyK _ _ _ _ _ _ _ _ (Act.put _ (some 30) _) _
          simp only [Act.put, List.setIfInBounds_toArray, List.set_cons_zero, List.set_cons_succ]
          have n89 := ne_rows r8 r9 (by decide)
          refine anyK_one (i := 10) (by kernel_rfl) rfl (fun Kk hKk => ?_)
          refine stepK_storeRow rfl rfl 38 _ _ rfl B8 #[.int .i64 rq, .int .i64 rb, .slice oa on oc, .slice sa sn sc, .slice ea en ec] rfl rfl 38 _ r8 rt_info rfl (by kernel_rfl) ?_
          refine hKk.out _ _ (fun _ => HSk.out _ (ext_only' E_aqpbc (setRow_only' _ _ _) s8)) ?_
          clear hKk Kk
          simp only [List.setIfInBounds_toArray, List.set_cons_zero, List.set_cons_succ]
          have r9' := ((setRow_only' wF B8 #[.int .i64 rq, .int .i64 rb, .slice oa on oc, .slice sa sn sc, .slice ea en ec]).block B9 (Ne.symm n89)).trans r9
          have r8' := setRow_heap wF B8 _ #[.int .i64 rq, .int .i64 rb, .slice oa on oc, .slice sa sn sc, .slice ea en ec] _ _ r8
          refine anyK_one (i := 11) (by kernel_rfl) rfl (fun Kk hKk => ?_)
          refine stepK_storeRow rfl rfl 27 _ _ rfl B9 #[.int .i64 F0, .int .i64 F1] rfl rfl 27 _ r9' ft_info rfl (by kernel_rfl) ?_
          refine hKk.out _ _ (fun h => Bool.noConfusion (show true = false from h)) ?_
          clear hKk Kk
          simp only [List.setIfInBounds_toArray, List.set_cons_zero, List.set_cons_succ]
          refine anyK_done (by kernel_rfl) ?_ _
          go_wp2_with fail
          go_meet
          exact ⟨B8, B9, rq, rb, oa, on, oc, sa, sn, sc, ea, en, ec, out, s0, st, rfl, rfl, ((setRow_only' _ B9 #[.int .i64 F0, .int .i64 F1]).block B8 n89).trans r8', setRow_heap _ B9 _ #[.int .i64 F0, .int .i64 F1] _ _ r9', ext_only' (ext_only' E_aqpbc (setRow_only' _ _ _) s8) (setRow_only' _ _ _) s9, fit_lies (P := fun w2 => OpsAt w2 oa on out ∧ IntsAt w2 sa sn s0 ∧ IntsAt w2 ea en st) hyg hxF n8 n9 rfl, ⟨hO4, hO5⟩, ⟨hI2, hI3⟩, ⟨hJ2, hJ3⟩, hR⟩
    · refine stepK_allocR rfl 9 rfl rfl ?_
      refine hKk.out _ _ (fun _ => HSk.out _ (cthen E_ _)) ?_
      clear hKk Kk
      obtain ⟨w_p, hw_p⟩ : ∃ V, (W0.drew).alloc (.cells #[.int .i64 0, .int .i64 0, .slice none 0 0, .slice none 0 0, .slice none 0 0] 38) = V := ⟨_, rfl⟩
      obtain ⟨B8, hB8⟩ : ∃ B, (W0.drew).heap.size = B := ⟨_, rfl⟩
      have hy : Ext (W0.drew) w_p := by rw [← hw_p]; exact ext_al _ _
      have r8 : w_p.heap[B8]? = some (.cells #[.int .i64 0, .int .i64 0, .slice none 0 0, .slice none 0 0, .slice none 0 0] 38 (0, 0)) := by rw [← hw_p, ← hB8]; exact heap_alloc_new _ _
      have s8 : W0.heap.size ≤ B8 := by rw [← hB8]; exact (E_).size
      have E_p : Ext W0 w_p := (E_).trans hy
      show anyK _ _ _ _ _ _ _ _ (Act.put _ (some 9) _) _
      simp only [Act.put, List.setIfInBounds_toArray, List.set_cons_zero, List.set_cons_succ]
      rw [hw_p, hB8]
      clear hw_p hB8 hy
      refine anyK_pair (i := 1) (j := 9) (by kernel_rfl) rfl rfl (fun Kk hKk => ?_) (fun Kk hKk => ?_)
      · go_simp
        (go_at_call 12; refine (HCp.out _ (E_p)).mono ?_; rintro e w_pa ⟨⟨a1, c1, rfl, hN1⟩, hy⟩)
        have E_pa : Ext W0 w_pa := (E_p).trans hy
        obtain ⟨_, k2, k3, hO1⟩ := hN1.at
        clear hN1
        have r8 := rowE r8 hy
        clear hy
        go_wp2_with fail
        refine hKk.out _ _ (fun _ => HSk.out _ E_pa) ?_
        clear hKk Kk
        simp only [List.setIfInBounds_toArray, List.set_cons_zero, List.set_cons_succ]
        refine anyK_pair (i := 3) (j := 9) (by kernel_rfl) rfl rfl (fun Kk hKk => ?_) (fun Kk hKk => ?_)
        · go_simp
          (go_at_call 7; refine (HCd.out _ (E_pa)).mono ?_; rintro e w_pab ⟨b1, e1, rfl, ⟨hL1, _, _⟩, hy⟩)
          have E_pab : Ext W0 w_pab := (E_pa).trans hy
          have hO1 := hO1.ext hy
          have r8 := rowE r8 hy
          clear hy
          go_wp2_with fail
          refine hKk.out _ _ (fun _ => HSk.out _ E_pab) ?_
          clear hKk Kk
          simp only [List.setIfInBounds_toArray, List.set_cons_zero, List.set_cons_succ]
          refine anyK_pair (i := 4) (j := 9) (by kernel_rfl) rfl rfl (fun Kk hKk => ?_) (fun Kk hKk => ?_)
          · go_simp
            (go_at_call 13; refine (HFit.out _ (E_pab) a1 c1 b1 e1 hO1 k2 k3 hL1).mono ?_; rintro e wF ⟨rq, rb, oa, on, oc, sa, sn, sc, ea, en, ec, out, s0, st, rfl, ⟨hO3, hO4, hO5⟩, ⟨hI1, hI2, hI3⟩, ⟨hJ1, hJ2, hJ3⟩, hR, hyg, hy⟩)
            have E_pabc : Ext W0 wF := (E_pab).trans hy
            obtain ⟨X3, hX3⟩ : ∃ X, (w_pab).heap.size = X := ⟨_, rfl⟩
            rw [hX3] at hyg
            have n8 : B8 < X3 ∨ wF.heap.size ≤ B8 := Or.inl (by rw [← hX3]; exact lt_row r8)
            have hxF : Ext wF wF := Ext.refl _
            have r8 := rowE r8 hy
            clear hy hO1 hL1 hX3 hO3 hI1 hJ1
            go_wp2_with fail
            refine hKk.out _ _ (fun _ => HSk.out _ E_pabc) ?_
            clear hKk Kk
            simp only [List.setIfInBounds_toArray, List.set_cons_zero, List.set_cons_succ]
            refine anyK_take (i := 5) (v := ?_) rfl (by kernel_rfl) (by kernel_rfl) (by kernel_rfl) (N := 12) (by kernel_rfl) (by kernel_rfl) (by kernel_rfl) (fun _ _ _ h => h) (Or.inl ⟨by rfl, ?_⟩) (HSk.out _ E_pabc) ?_
            rotate_left 1
            · intro w hSw
              go_simp
              try with_reducible rfl
            show anyK _ _ _ _ _ _ _ _ (Act.put _ (some 23) _) _
            simp only [Act.put, List.setIfInBounds_toArray, List.set_cons_zero, List.set_cons_succ]
            refine anyK_take (i := 6) (v := ?_) rfl (by kernel_rfl) (by kernel_rfl) (by kernel_rfl) (N := 12) (by kernel_rfl) (by kernel_rfl) (by kernel_rfl) (fun _ _ _ h => h) (Or.inl ⟨by rfl, ?_⟩) (HSk.out _ E_pabc) ?_
            rotate_left 1
            · intro w hSw
              go_simp
              try with_reducible rfl
            show anyK _ _ _ _ _ _ _ _ (Act.put _ (some 29) _) _
            simp only [Act.put, List.setIfInBounds_toArray, List.set_cons_zero, List.set_cons_succ]
            refine anyK_take (i := 7) (v := ?_) rfl (by kernel_rfl) (by kernel_rfl) (by kernel_rfl) (N := 12) (by kernel_rfl) (by kernel_rfl) (by kernel_rfl) (fun _ _ _ h => h) (Or.inl ⟨by rfl, ?_⟩) (HSk.out _ E_pabc) ?_
            rotate_left 1
            · intro w hSw
              go_simp
              try with_reducible rfl
            show anyK _ _ _ _ _ _ _ _ (Act.put _ (some 30) _) _
            simp only [Act.put, List.setIfInBounds_toArray, List.set_cons_zero, List.set_cons_succ]
            refine anyK_one (i := 9) (by kernel_rfl) rfl (fun Kk hKk => ?_)
            refine stepK_allocF rfl 10 rfl rfl ?_
            refine hKk.out _ _ (fun _ => HSk.out _ (cthen E_pabc _)) ?_
            clear hKk Kk
            obtain ⟨w_pabcq, hw_pabcq⟩ : ∃ V, (wF).alloc (.cells #[.int .i64 0, .int .i64 0] 27) = V := ⟨_, rfl⟩
            obtain ⟨B9, hB9⟩ : ∃ B, (wF).heap.size = B := ⟨_, rfl⟩
            have hy : Ext (wF) w_pabcq := by rw [← hw_pabcq]; exact ext_al _ _
            have r9 : w_pabcq.heap[B9]? = some (.cells #[.int .i64 0, .int .i64 0] 27 (0, 0)) := by rw [← hw_pabcq, ← hB9]; exact heap_alloc_new _ _
            have s9 : W0.heap.size ≤ B9 := by rw [← hB9]; exact (E_pabc).size
            have E_pabcq : Ext W0 w_pabcq := (E_pabc).trans hy
            have n9 : B9 < X3 ∨ wF.heap.size ≤ B9 := Or.inr (by rw [← hB9]; exact hxF.size)
            have hxF : Ext wF w_pabcq := hxF.trans hy
            have r8 := rowE r8 hy
            show anyK _ _ _ _ _ _ _ _ (Act.put _ (some 10) _) _
            simp only [Act.put, List.setIfInBounds_toArray, List.set_cons_zero, List.set_cons_succ]
            rw [hw_pabcq, hB9]
            clear hw_pabcq hB9 hy
            have n89 := ne_rows r8 r9 (by decide)
            refine anyK_one (i := 10) (by kernel_rfl) rfl (fun Kk hKk => ?_)
            refine stepK_storeRow rfl rfl 38 _ _ rfl B8 #[.int .i64 rq, .int .i64 rb, .slice oa on oc, .slice sa sn sc, .slice ea en ec] rfl rfl 38 _ r8 rt_info rfl (by kernel_rfl) ?_
            refine hKk.out _ _ (fun _ => HSk.out _ (ext_only' E_pabcq (setRow_only' _ _ _) s8)) ?_
            clear hKk Kk
            simp only [List.setIfInBounds_toArray, List.set_cons_zero, List.set_cons_succ]
            have r9' := ((setRow_only' w_pabcq B8 #[.int .i64 rq, .int .i64 rb, .slice oa on oc, .slice sa sn sc, .slice ea en ec]).block B9 (Ne.symm n89)).trans r9
            have r8' := setRow_heap w_pabcq B8 _ #[.int .i64 rq, .int .i64 rb, .slice oa on oc, .slice sa sn sc, .slice ea en ec] _ _ r8
            refine anyK_one (i := 11) (by kernel_rfl) rfl (fun Kk hKk => ?_)
            refine stepK_storeRow rfl rfl 27 _ _ rfl B9 #[.int .i64 F0, .int .i64 F1] rfl rfl 27 _ r9' ft_info rfl (by kernel_rfl) ?_
            refine hKk.out _ _ (fun h => Bool.noConfusion (show true = false from h)) ?_
            clear hKk Kk
            simp only [List.setIfInBounds_toArray, List.set_cons_zero, List.set_cons_succ]
            refine anyK_done (by kernel_rfl) ?_ _
            go_wp2_with fail
            go_meet
            exact ⟨B8, B9, rq, rb, oa, on, oc, sa, sn, sc, ea, en, ec, out, s0, st, rfl, rfl, ((setRow_only' _ B9 #[.int .i64 F0, .int .i64 F1]).block B8 n89).trans r8', setRow_heap _ B9 _ #[.int .i64 F0, .int .i64 F1] _ _ r9', ext_only' (ext_only' E_pabcq (setRow_only' _ _ _) s8) (setRow_only' _ _ _) s9, fit_lies (P := fun w2 => OpsAt w2 oa on out ∧ IntsAt w2 sa sn s0 ∧ IntsAt w2 ea en st) hyg hxF n8 n9 rfl, ⟨hO4, hO5⟩, ⟨hI2, hI3⟩, ⟨hJ2, hJ3⟩, hR⟩
          · refine stepK_allocF rfl 10 rfl rfl ?_
            refine hKk.out _ _ (fun _ => HSk.out _ (cthen E_pab _)) ?_
            clear hKk Kk
            obtain ⟨w_pabq, hw_pabq⟩ : ∃ V, (w_pab).alloc (.cells #[.int .i64 0, .int .i64 0] 27) = V := ⟨_, rfl⟩
            obtain ⟨B9, hB9⟩ : ∃ B, (w_pab).heap.size = B := ⟨_, rfl⟩
            have hy : Ext (w_pab) w_pabq := by rw [← hw_pabq]; exact ext_al _ _
            have r9 : w_pabq.heap[B9]? = some (.cells #[.int .i64 0, .int .i64 0] 27 (0, 0)) := by rw [← hw_pabq, ← hB9]; exact heap_alloc_new _ _
            have s9 : W0.heap.size ≤ B9 := by rw [← hB9]; exact (E_pab).size
            have E_pabq : Ext W0 w_pabq := (E_pab).trans hy
            have r8 := rowE r8 hy
            have hO1 := hO1.ext hy
            have hL1 := hL1.ext hy
            show anyK _ _ _ _ _ _ _ _ (Act.put _ (some 10) _) _
            simp only [Act.put, List.setIfInBounds_toArray, List.set_cons_zero, List.set_cons_succ]
            rw [hw_pabq, hB9]
            clear hw_pabq hB9 hy
            refine anyK_one (i := 4) (by kernel_rfl) rfl (fun Kk hKk => ?_)
            go_simp
            (go_at_call 13; refine (HFit.out _ (E_pabq) a1 c1 b1 e1 hO1 k2 k3 hL1).mono ?_; rintro e wF ⟨rq, rb, oa, on, oc, sa, sn, sc, ea, en, ec, out, s0, st, rfl, ⟨hO3, hO4, hO5⟩, ⟨hI1, hI2, hI3⟩, ⟨hJ1, hJ2, hJ3⟩, hR, hyg, hy⟩)
            have E_pabqc : Ext W0 wF := (E_pabq).trans hy
            obtain ⟨X3, hX3⟩ : ∃ X, (w_pabq).heap.size = X := ⟨_, rfl⟩
            rw [hX3] at hyg
            have n8 : B8 < X3 ∨ wF.heap.size ≤ B8 := Or.inl (by rw [← hX3]; exact lt_row r8)
            have n9 : B9 < X3 ∨ wF.heap.size ≤ B9 := Or.inl (by rw [← hX3]; exact lt_row r9)
            have hxF : Ext wF wF := Ext.refl _
            have r8 := rowE r8 hy
            have r9 := rowE r9 hy
            clear hy hO1 hL1 hX3 hO3 hI1 hJ1
            go_wp2_with fail
            refine hKk.out _ _ (fun _ => HSk.out _ E_pabqc) ?_
            clear hKk Kk
            simp only [List.setIfInBounds_toArray, List.set_cons_zero, List.set_cons_succ]
            refine anyK_take (i := 5) (v := ?_) rfl (by kernel_rfl) (by kernel_rfl) (by kernel_rfl) (N := 12) (by kernel_rfl) (by kernel_rfl) (by kernel_rfl) (fun _ _ _ h => h) (Or.inl ⟨by rfl, ?_⟩) (HSk.out _ E_pabqc) ?_
            rotate_left 1
            · intro w hSw
              go_simp
              try with_reducible rfl
            show anyK _ _ _ _ _ _ _ _ (Act.put _ (some 23) _) _
            simp only [Act.put, List.setIfInBounds_toArray, List.set_cons_zero, List.set_cons_succ]
            refine anyK_take (i := 6) (v := ?_) rfl (by kernel_rfl) (by kernel_rfl) (by kernel_rfl) (N := 12) (by kernel_rfl) (by kernel_rfl) (by kernel_rfl) (fun _ _ _ h => h) (Or.inl ⟨by rfl, ?_⟩) (HSk.out _ E_pabqc) ?_
            rotate_left 1
            · intro w hSw
              go_simp
              try with_reducible rfl
            show anyK _ _ _ _ _ _ _ _ (Act.put _ (some 29) _) _
            simp only [Act.put, List.setIfInBounds_toArray, List.set_cons_zero, List.set_cons_succ]
            refine anyK_take (i := 7) (v := ?_) rfl (by kernel_rfl) (by kernel_rfl) (by kernel_rfl) (N := 12) (by kernel_rfl) (by kernel_rfl) (by kernel_rfl) (fun _ _ _ h => h) (Or.inl ⟨by rfl, ?_⟩) (HSk.out _ E_pabqc) ?_
            rotate_left 1
            · intro w hSw
              go_simp
              try with_reducible rfl
            show anyK _ _ _ _ _ _ _ _ (Act.put _ (some 30) _) _
            simp only [Act.put, List.setIfInBounds_toArray, List.set_cons_zero, List.set_cons_succ]
            have n89 := ne_rows r8 r9 (by decide)
            refine anyK_one (i := 10) (by kernel_rfl) rfl (fun Kk hKk => ?_)
            refine stepK_storeRow rfl rfl 38 _ _ rfl B8 #[.int .i64 rq, .int .i64 rb, .slice oa on oc, .slice sa sn sc, .slice ea en ec] rfl rfl 38 _ r8 rt_info rfl (by kernel_rfl) ?_
            refine hKk.out _ _ (fun _ => HSk.out _ (ext_only' E_pabqc (setRow_only' _ _ _) s8)) ?_
            clear hKk Kk
            simp only [List.setIfInBounds_toArray, List.set_cons_zero, List.set_cons_succ]
            have r9' := ((setRow_only' wF B8 #[.int .i64 rq, .int .i64 rb, .slice oa on oc, .slice sa sn sc, .slice ea en ec]).block B9 (Ne.symm n89)).trans r9
            have r8' := setRow_heap wF B8 _ #[.int .i64 rq, .int .i64 rb, .slice oa on oc, .slice sa sn sc, .slice ea en ec] _ _ r8
            refine anyK_one (i := 11) (by kernel_rfl) rfl (fun Kk hKk => ?_)
            refine stepK_storeRow rfl rfl 27 _ _ rfl B9 #[.int .i64 F0, .int .i64 F1] rfl rfl 27 _ r9' ft_info rfl (by kernel_rfl) ?_
            refine hKk.out _ _ (fun h => Bool.noConfusion (show true = false from h)) ?_
            clear hKk Kk
            simp only [List.setIfInBounds_toArray, List.set_cons_zero, List.set_cons_succ]
            refine anyK_done (by kernel_rfl) ?_ _
            go_wp2_with fail
            go_meet
            exact ⟨B8, B9, rq, rb, oa, on, oc, sa, sn, sc, ea, en, ec, out, s0, st, rfl, rfl, ((setRow_only' _ B9 #[.int .i64 F0, .int .i64 F1]).block B8 n89).trans r8', setRow_heap _ B9 _ #[.int .i64 F0, .int .i64 F1] _ _ r9', ext_only' (ext_only' E_pabqc (setRow_only' _ _ _) s8) (setRow_only' _ _ _) s9, fit_lies (P := fun w2 => OpsAt w2 oa on out ∧ IntsAt w2 sa sn s0 ∧ IntsAt w2 ea en st) hyg hxF n8 n9 rfl, ⟨hO4, hO5⟩, ⟨hI2, hI3⟩, ⟨hJ2, hJ3⟩, hR⟩
        · refine stepK_allocF rfl 10 rfl rfl ?_
          refine hKk.out _ _ (fun _ => HSk.out _ (cthen E_pa _)) ?_
          clear hKk Kk
          obtain ⟨w_paq, hw_paq⟩ : ∃ V, (w_pa).alloc (.cells #[.int .i64 0, .int .i64 0] 27) = V := ⟨_, rfl⟩
          obtain ⟨B9, hB9⟩ : ∃ B, (w_pa).heap.size = B := ⟨_, rfl⟩
          have hy : Ext (w_pa) w_paq := by rw [← hw_paq]; exact ext_al _ _
          have r9 : w_paq.heap[B9]? = some (.cells #[.int .i64 0, .int .i64 0] 27 (0, 0)) := by rw [← hw_paq, ← hB9]; exact heap_alloc_new _ _
          have s9 : W0.heap.size ≤ B9 := by rw [← hB9]; exact (E_pa).size
          have E_paq : Ext W0 w_paq := (E_pa).trans hy
          have r8 := rowE r8 hy
          have hO1 := hO1.ext hy
          show anyK _ _ _ _ _ _ _ _ (Act.put _ (some 10) _) _
          simp only [Act.put, List.setIfInBounds_toArray, List.set_cons_zero, List.set_cons_succ]
          rw [hw_paq, hB9]
          clear hw_paq hB9 hy
          refine anyK_one (i := 3) (by kernel_rfl) rfl (fun Kk hKk => ?_)
          go_simp
          (go_at_call 7; refine (HCd.out _ (E_paq)).mono ?_; rintro e w_paqb ⟨b1, e1, rfl, ⟨hL1, _, _⟩, hy⟩)
          have E_paqb : Ext W0 w_paqb := (E_paq).trans hy
          have hO1 := hO1.ext hy
          have r8 := rowE r8 hy
          have r9 := rowE r9 hy
          clear hy
          go_wp2_with fail
          refine hKk.out _ _ (fun _ => HSk.out _ E_paqb) ?_
          clear hKk Kk
          simp only [List.setIfInBounds_toArray, List.set_cons_zero, List.set_cons_succ]
          refine anyK_one (i := 4) (by kernel_rfl) rfl (fun Kk hKk => ?_)
          go_simp
          (go_at_call 13; refine (HFit.out _ (E_paqb) a1 c1 b1 e1 hO1 k2 k3 hL1).mono ?_; rintro e wF ⟨rq, rb, oa, on, oc, sa, sn, sc, ea, en, ec, out, s0, st, rfl, ⟨hO3, hO4, hO5⟩, ⟨hI1, hI2, hI3⟩, ⟨hJ1, hJ2, hJ3⟩, hR, hyg, hy⟩)
          have E_paqbc : Ext W0 wF := (E_paqb).trans hy
          obtain ⟨X3, hX3⟩ : ∃ X, (w_paqb).heap.size = X := ⟨_, rfl⟩
          rw [hX3] at hyg
          have n8 : B8 < X3 ∨ wF.heap.size ≤ B8 := Or.inl (by rw [← hX3]; exact lt_row r8)
          have n9 : B9 < X3 ∨ wF.heap.size ≤ B9 := Or.inl (by rw [← hX3]; exact lt_row r9)
          have hxF : Ext wF wF := Ext.refl _
          have r8 := rowE r8 hy
          have r9 := rowE r9 hy
          clear hy hO1 hL1 hX3 hO3 hI1 hJ1
          go_wp2_with fail
          refine hKk.out _ _ (fun _ => HSk.out _ E_paqbc) ?_
          clear hKk Kk
          simp only [List.setIfInBounds_toArray, List.set_cons_zero, List.set_cons_succ]
          refine anyK_take (i := 5) (v := ?_) rfl (by kernel_rfl) (by kernel_rfl) (by kernel_rfl) (N := 12) (by kernel_rfl) (by kernel_rfl) (by kernel_rfl) (fun _ _ _ h => h) (Or.inl ⟨by rfl, ?_⟩) (HSk.out _ E_paqbc) ?_
          rotate_left 1
          · intro w hSw
            go_simp
            try with_reducible rfl
          show anyK _ _ _ _ _ _ _ _ (Act.put _ (some 23) _) _
          simp only [Act.put, List.setIfInBounds_toArray, List.set_cons_zero, List.set_cons_succ]
          refine anyK_take (i := 6) (v := ?_) rfl (by kernel_rfl) (by kernel_rfl) (by kernel_rfl) (N := 12) (by kernel_rfl) (by kernel_rfl) (by kernel_rfl) (fun _ _ _ h => h) (Or.inl ⟨by rfl, ?_⟩) (HSk.out _ E_paqbc) ?_
          rotate_left 1
          · intro w hSw
            go_simp
            try with_reducible rfl
          show anyK _ _ _ _ _ _ _ _ (Act.put _ (some 29) _) _
          simp only [Act.put, List.setIfInBounds_toArray, List.set_cons_zero, List.set_cons_succ]
          refine anyK_take (i := 7) (v := ?_) rfl (by kernel_rfl) (by kernel_rfl) (by kernel_rfl) (N := 12) (by kernel_rfl) (by kernel_rfl) (by kernel_rfl) (fun _ _ _ h => h) (Or.inl ⟨by rfl, ?_⟩) (HSk.out _ E_paqbc) ?_
          rotate_left 1
          · intro w hSw
            go_simp
            try with_reducible rfl
          show anyK _ _ _ _ _ _ _ _ (Act.put _ (some 30) _) _
          simp only [Act.put, List.setIfInBounds_toArray, List.set_cons_zero, List.set_cons_succ]
          have n89 := ne_rows r8 r9 (by decide)
          refine anyK_one (i := 10) (by kernel_rfl) rfl (fun Kk hKk => ?_)
          refine stepK_storeRow rfl rfl 38 _ _ rfl B8 #[.int .i64 rq, .int .i64 rb, .slice oa on oc, .slice sa sn sc, .slice ea en ec] rfl rfl 38 _ r8 rt_info rfl (by kernel_rfl) ?_
          refine hKk.out _ _ (fun _ => HSk.out _ (ext_only' E_paqbc (setRow_only' _ _ _) s8)) ?_
          clear hKk Kk
          simp only [List.setIfInBounds_toArray, List.set_cons_zero, List.set_cons_succ]
          have r9' := ((setRow_only' wF B8 #[.int .i64 rq, .int .i64 rb, .slice oa on oc, .slice sa sn sc, .slice ea en ec]).block B9 (Ne.symm n89)).trans r9
          have r8' := setRow_heap wF B8 _ #[.int .i64 rq, .int .i64 rb, .slice oa on oc, .slice sa sn sc, .slice ea en ec] _ _ r8
          refine anyK_one (i := 11) (by kernel_rfl) rfl (fun Kk hKk => ?_)
          refine stepK_storeRow rfl rfl 27 _ _ rfl B9 #[.int .i64 F0, .int .i64 F1] rfl rfl 27 _ r9' ft_info rfl (by kernel_rfl) ?_
          refine hKk.out _ _ (fun h => Bool.noConfusion (show true = false from h)) ?_
          clear hKk Kk
          simp only [List.setIfInBounds_toArray, List.set_cons_zero, List.set_cons_succ]
          refine anyK_done (by kernel_rfl) ?_ _
          go_wp2_with fail
          go_meet
          exact ⟨B8, B9, rq, rb, oa, on, oc, sa, sn, sc, ea, en, ec, out, s0, st, rfl, rfl, ((setRow_only' _ B9 #[.int .i64 F0, .int .i64 F1]).block B8 n89).trans r8', setRow_heap _ B9 _ #[.int .i64 F0, .int .i64 F1] _ _ r9', ext_only' (ext_only' E_paqbc (setRow_only' _ _ _) s8) (setRow_only' _ _ _) s9, fit_lies (P := fun w2 => OpsAt w2 oa on out ∧ IntsAt w2 sa sn s0 ∧ IntsAt w2 ea en st) hyg hxF n8 n9 rfl, ⟨hO4, hO5⟩, ⟨hI2, hI3⟩, ⟨hJ2, hJ3⟩, hR⟩
      · refine stepK_allocF rfl 10 rfl rfl ?_
        refine hKk.out _ _ (fun _ => HSk.out _ (cthen E_p _)) ?_
        clear hKk Kk
        obtain ⟨w_pq, hw_pq⟩ : ∃ V, (w_p).alloc (.cells #[.int .i64 0, .int .i64 0] 27) = V := ⟨_, rfl⟩
        obtain ⟨B9, hB9⟩ : ∃ B, (w_p).heap.size = B := ⟨_, rfl⟩
        have hy : Ext (w_p) w_pq := by rw [← hw_pq]; exact ext_al _ _
        have r9 : w_pq.heap[B9]? = some (.cells #[.int .i64 0, .int .i64 0] 27 (0, 0)) := by rw [← hw_pq, ← hB9]; exact heap_alloc_new _ _
        have s9 : W0.heap.size ≤ B9 := by rw [← hB9]; exact (E_p).size
        have E_pq : Ext W0 w_pq := (E_p).trans hy
        have r8 := rowE r8 hy
        show anyK _ _ _ _ _ _ _ _ (Act.put _ (some 10) _) _
        simp only [Act.put, List.setIfInBounds_toArray, List.set_cons_zero, List.set_cons_succ]
        rw [hw_pq, hB9]
        clear hw_pq hB9 hy
        refine anyK_one (i := 1) (by kernel_rfl) rfl (fun Kk hKk => ?_)
        go_simp
        (go_at_call 12; refine (HCp.out _ (E_pq)).mono ?_; rintro e w_pqa ⟨⟨a1, c1, rfl, hN1⟩, hy⟩)
        have E_pqa : Ext W0 w_pqa := (E_pq).trans hy
        obtain ⟨_, k2, k3, hO1⟩ := hN1.at
        clear hN1
        have r8 := rowE r8 hy
        have r9 := rowE r9 hy
        clear hy
        go_wp2_with fail
        refine hKk.out _ _ (fun _ => HSk.out _ E_pqa) ?_
        clear hKk Kk
        simp only [List.setIfInBounds_toArray, List.set_cons_zero, List.set_cons_succ]
        refine anyK_one (i := 3) (by kernel_rfl) rfl (fun Kk hKk => ?_)
        go_simp
        (go_at_call 7; refine (HCd.out _ (E_pqa)).mono ?_; rintro e w_pqab ⟨b1, e1, rfl, ⟨hL1, _, _⟩, hy⟩)
        have E_pqab : Ext W0 w_pqab := (E_pqa).trans hy
        have hO1 := hO1.ext hy
        have r8 := rowE r8 hy
        have r9 := rowE r9 hy
        clear hy
        go_wp2_with fail
        refine hKk.out _ _ (fun _ => HSk.out _ E_pqab) ?_
        clear hKk Kk
        simp only [List.setIfInBounds_toArray, List.set_cons_zero, List.set_cons_succ]
        refine anyK_one (i := 4) (by kernel_rfl) rfl (fun Kk hKk => ?_)
        go_simp
        (go_at_call 13; refine (HFit.out _ (E_pqab) a1 c1 b1 e1 hO1 k2 k3 hL1).mono ?_; rintro e wF ⟨rq, rb, oa, on, oc, sa, sn, sc, ea, en, ec, out, s0, st, rfl, ⟨hO3, hO4, hO5⟩, ⟨hI1, hI2, hI3⟩, ⟨hJ1, hJ2, hJ3⟩, hR, hyg, hy⟩)
        have E_pqabc : Ext W0 wF := (E_pqab).trans hy
        obtain ⟨X3, hX3⟩ : ∃ X, (w_pqab).heap.size = X := ⟨_, rfl⟩
        rw [hX3] at hyg
        have n8 : B8 < X3 ∨ wF.heap.size ≤ B8 := Or.inl (by rw [← hX3]; exact lt_row r8)
        have n9 : B9 < X3 ∨ wF.heap.size ≤ B9 := Or.inl (by rw [← hX3]; exact lt_row r9)
        have hxF : Ext wF wF := Ext.refl _
        have r8 := rowE r8 hy
        have r9 := rowE r9 hy
        clear hy hO1 hL1 hX3 hO3 hI1 hJ1
        go_wp2_with fail
        refine hKk.out _ _ (fun _ => HSk.out _ E_pqabc) ?_
        clear hKk Kk
        simp only [List.setIfInBounds_toArray, List.set_cons_zero, List.set_cons_succ]
        refine anyK_take (i := 5) (v := ?_) rfl (by kernel_rfl) (by kernel_rfl) (by kernel_rfl) (N := 12) (by kernel_rfl) (by kernel_rfl) (by kernel_rfl) (fun _ _ _ h => h) (Or.inl ⟨by rfl, ?_⟩) (HSk.out _ E_pqabc) ?_
        rotate_left 1
        · intro w hSw
          go_simp
          try with_reducible rfl
        show anyK _ _ _ _ _ _ _ _ (Act.put _ (some 23) _) _
        simp only [Act.put, List.setIfInBounds_toArray, List.set_cons_zero, List.set_cons_succ]
        refine anyK_take (i := 6) (v := ?_) rfl (by kernel_rfl) (by kernel_rfl) (by kernel_rfl) (N := 12) (by kernel_rfl) (by kernel_rfl) (by kernel_rfl) (fun _ _ _ h => h) (Or.inl ⟨by rfl, ?_⟩) (HSk.out _ E_pqabc) ?_
        rotate_left 1
        · intro w hSw
          go_simp
          try with_reducible rfl
        show anyK _ _ _ _ _ _ _ _ (Act.put _ (some 29) _) _
        simp only [Act.put, List.setIfInBounds_toArray, List.set_cons_zero, List.set_cons_succ]
        refine anyK_take (i := 7) (v := ?_) rfl (by kernel_rfl) (by kernel_rfl) (by kernel_rfl) (N := 12) (by kernel_rfl) (by kernel_rfl) (by kernel_rfl) (fun _ _ _ h => h) (Or.inl ⟨by rfl, ?_⟩) (HSk.out _ E_pqabc) ?_
        rotate_left 1
        · intro w hSw
          go_simp
          try with_reducible rfl
        show anyK _ _ _ _ _ _ _ _ (Act.put _ (some 30) _) _
        simp only [Act.put, List.setIfInBounds_toArray, List.set_cons_zero, List.set_cons_succ]
        have n89 := ne_rows r8 r9 (by decide)
        refine anyK_one (i := 10) (by kernel_rfl) rfl (fun Kk hKk => ?_)
        refine stepK_storeRow rfl rfl 38 _ _ rfl B8 #[.int .i64 rq, .int .i64 rb, .slice oa on oc, .slice sa sn sc, .slice ea en ec] rfl rfl 38 _ r8 rt_info rfl (by kernel_rfl) ?_
        refine hKk.out _ _ (fun _ => HSk.out _ (ext_only' E_pqabc (setRow_only' _ _ _) s8)) ?_
        clear hKk Kk
        simp only [List.setIfInBounds_toArray, List.set_cons_zero, List.set_cons_succ]
        have r9' := ((setRow_only' wF B8 #[.int .i64 rq, .int .i64 rb, .slice oa on oc, .slice sa sn sc, .slice ea en ec]).block B9 (Ne.symm n89)).trans r9
        have r8' := setRow_heap wF B8 _ #[.int .i64 rq, .int .i64 rb, .slice oa on oc, .slice sa sn sc, .slice ea en ec] _ _ r8
        refine anyK_one (i := 11) (by kernel_rfl) rfl (fun Kk hKk => ?_)
        refine stepK_storeRow rfl rfl 27 _ _ rfl B9 #[.int .i64 F0, .int .i64 F1] rfl rfl 27 _ r9' ft_info rfl (by kernel_rfl) ?_
        refine hKk.out _ _ (fun h => Bool.noConfusion (show true = false from h)) ?_
        clear hKk Kk
        simp only [List.setIfInBounds_toArray, List.set_cons_zero, List.set_cons_succ]
        refine anyK_done (by kernel_rfl) ?_ _
        go_wp2_with fail
        go_meet
        exact ⟨B8, B9, rq, rb, oa, on, oc, sa, sn, sc, ea, en, ec, out, s0, st, rfl, rfl, ((setRow_only' _ B9 #[.int .i64 F0, .int .i64 F1]).block B8 n89).trans r8', setRow_heap _ B9 _ #[.int .i64 F0, .int .i64 F1] _ _ r9', ext_only' (ext_only' E_pqabc (setRow_only' _ _ _) s8) (setRow_only' _ _ _) s9, fit_lies (P := fun w2 => OpsAt w2 oa on out ∧ IntsAt w2 sa sn s0 ∧ IntsAt w2 ea en st) hyg hxF n8 n9 rfl, ⟨hO4, hO5⟩, ⟨hI2, hI3⟩, ⟨hJ2, hJ3⟩, hR⟩
    · refine stepK_allocF rfl 10 rfl rfl ?_
      refine hKk.out _ _ (fun _ => HSk.out _ (cthen E_ _)) ?_
      clear hKk Kk
      obtain ⟨w_q, hw_q⟩ : ∃ V, (W0.drew).alloc (.cells #[.int .i64 0, .int .i64 0] 27) = V := ⟨_, rfl⟩
      obtain ⟨B9, hB9⟩ : ∃ B, (W0.drew).heap.size = B := ⟨_, rfl⟩
      have hy : Ext (W0.drew) w_q := by rw [← hw_q]; exact ext_al _ _
      have r9 : w_q.heap[B9]? = some (.cells #[.int .i64 0, .int .i64 0] 27 (0, 0)) := by rw [← hw_q, ← hB9]; exact heap_alloc_new _ _
      have s9 : W0.heap.size ≤ B9 := by rw [← hB9]; exact (E_).size
      have E_q : Ext W0 w_q := (E_).trans hy
      show anyK _ _ _ _ _ _ _ _ (Act.put _ (some 10) _) _
      simp only [Act.put, List.setIfInBounds_toArray, List.set_cons_zero, List.set_cons_succ]
      rw [hw_q, hB9]
      clear hw_q hB9 hy
      refine anyK_pair (i := 1) (j := 8) (by kernel_rfl) rfl rfl (fun Kk hKk => ?_) (fun Kk hKk => ?_)
      · go_simp
        (go_at_call 12; refine (HCp.out _ (E_q)).mono ?_; rintro e w_qa ⟨⟨a1, c1, rfl, hN1⟩, hy⟩)
        have E_qa : Ext W0 w_qa := (E_q).trans hy
        obtain ⟨_, k2, k3, hO1⟩ := hN1.at
        clear hN1
        have r9 := rowE r9 hy
        clear hy
        go_wp2_with fail
        refine hKk.out _ _ (fun _ => HSk.out _ E_qa) ?_
        clear hKk Kk
        simp only [List.setIfInBounds_toArray, List.set_cons_zero, List.set_cons_succ]
        refine anyK_pair (i := 3) (j := 8) (by kernel_rfl) rfl rfl (fun Kk hKk => ?_) (fun Kk hKk => ?_)
        · go_simp
          (go_at_call 7; refine (HCd.out _ (E_qa)).mono ?_; rintro e w_qab ⟨b1, e1, rfl, ⟨hL1, _, _⟩, hy⟩)
          have E_qab : Ext W0 w_qab := (E_qa).trans hy
          have hO1 := hO1.ext hy
          have r9 := rowE r9 hy
          clear hy
          go_wp2_with fail
          refine hKk.out _ _ (fun _ => HSk.out _ E_qab) ?_
          clear hKk Kk
          simp only [List.setIfInBounds_toArray, List.set_cons_zero, List.set_cons_succ]
          refine anyK_pair (i := 4) (j := 8) (by kernel_rfl) rfl rfl (fun Kk hKk => ?_) (fun Kk hKk => ?_)
          · go_simp
            (go_at_call 13; refine (HFit.out _ (E_qab) a1 c1 b1 e1 hO1 k2 k3 hL1).mono ?_; rintro e wF ⟨rq, rb, oa, on, oc, sa, sn, sc, ea, en, ec, out, s0, st, rfl, ⟨hO3, hO4, hO5⟩, ⟨hI1, hI2, hI3⟩, ⟨hJ1, hJ2, hJ3⟩, hR, hyg, hy⟩)
            have E_qabc : Ext W0 wF := (E_qab).trans hy
            obtain ⟨X3, hX3⟩ : ∃ X, (w_qab).heap.size = X := ⟨_, rfl⟩
            rw [hX3] at hyg
            have n9 : B9 < X3 ∨ wF.heap.size ≤ B9 := Or.inl (by rw [← hX3]; exact lt_row r9)
            have hxF : Ext wF wF := Ext.refl _
            have r9 := rowE r9 hy
            clear hy hO1 hL1 hX3 hO3 hI1 hJ1
            go_wp2_with fail
            refine hKk.out _ _ (fun _ => HSk.out _ E_qabc) ?_
            clear hKk Kk
            simp only [List.setIfInBounds_toArray, List.set_cons_zero, List.set_cons_succ]
            refine anyK_take (i := 5) (v := ?_) rfl (by kernel_rfl) (by kernel_rfl) (by kernel_rfl) (N := 12) (by kernel_rfl) (by kernel_rfl) (by kernel_rfl) (fun _ _ _ h => h) (Or.inl ⟨by rfl, ?_⟩) (HSk.out _ E_qabc) ?_
            rotate_left 1
            · intro w hSw
              go_simp
              try with_reducible rfl
            show anyK _ _ _ _ _ _ _ _ (Act.put _ (some 23) _) _
            simp only [Act.put, List.setIfInBounds_toArray, List.set_cons_zero, List.set_cons_succ]
            refine anyK_take (i := 6) (v := ?_) rfl (by kernel_rfl) (by kernel_rfl) (by kernel_rfl) (N := 12) (by kernel_rfl) (by kernel_rfl) (by kernel_rfl) (fun _ _ _ h => h) (Or.inl ⟨by rfl, ?_⟩) (HSk.out _ E_qabc) ?_
            rotate_left 1
            · intro w hSw
              go_simp
              try with_reducible rfl
            show anyK _ _ _ _ _ _ _ _ (Act.put _ (some 29) _) _
            simp only [Act.put, List.setIfInBounds_toArray, List.set_cons_zero, List.set_cons_succ]
            refine anyK_take (i := 7) (v := ?_) rfl (by kernel_rfl) (by kernel_rfl) (by kernel_rfl) (N := 12) (by kernel_rfl) (by kernel_rfl) (by kernel_rfl) (fun _ _ _ h => h) (Or.inl ⟨by rfl, ?_⟩) (HSk.out _ E_qabc) ?_
            rotate_left 1
            · intro w hSw
              go_simp
              try with_reducible rfl
            show anyK _ _ _ _ _ _ _ _ (Act.put _ (some 30) _) _
            simp only [Act.put, List.setIfInBounds_toArray, List.set_cons_zero, List.set_cons_succ]
            refine anyK_one (i := 8) (by kernel_rfl) rfl (fun Kk hKk => ?_)
            refine stepK_allocR rfl 9 rfl rfl ?_
            refine hKk.out _ _ (fun _ => HSk.out _ (cthen E_qabc _)) ?_
            clear hKk Kk
            obtain ⟨w_qabcp, hw_qabcp⟩ : ∃ V, (wF).alloc (.cells #[.int .i64 0, .int .i64 0, .slice none 0 0, .slice none 0 0, .slice none 0 0] 38) = V := ⟨_, rfl⟩
            obtain ⟨B8, hB8⟩ : ∃ B, (wF).heap.size = B := ⟨_, rfl⟩
            have hy : Ext (wF) w_qabcp := by rw [← hw_qabcp]; exact ext_al _ _
            have r8 : w_qabcp.heap[B8]? = some (.cells #[.int .i64 0, .int .i64 0, .slice none 0 0, .slice none 0 0, .slice none 0 0] 38 (0, 0)) := by rw [← hw_qabcp, ← hB8]; exact heap_alloc_new _ _
            have s8 : W0.heap.size ≤ B8 := by rw [← hB8]; exact (E_qabc).size
            have E_qabcp : Ext W0 w_qabcp := (E_qabc).trans hy
            have n8 : B8 < X3 ∨ wF.heap.size ≤ B8 := Or.inr (by rw [← hB8]; exact hxF.size)
            have hxF : Ext wF w_qabcp := hxF.trans hy
            have r9 := rowE r9 hy
            show anyK _ _ _ _ _ _ _ _ (Act.put _ (some 9) _) _
            simp only [Act.put, List.setIfInBounds_toArray, List.set_cons_zero, List.set_cons_succ]
            rw [hw_qabcp, hB8]
            clear hw_qabcp hB8 hy
            have n89 := ne_rows r8 r9 (by decide)
            refine anyK_one (i := 10) (by kernel_rfl) rfl (fun Kk hKk => ?_)
            refine stepK_storeRow rfl rfl 38 _ _ rfl B8 #[.int .i64 rq, .int .i64 rb, .slice oa on oc, .slice sa sn sc, .slice ea en ec] rfl rfl 38 _ r8 rt_info rfl (by kernel_rfl) ?_
            refine hKk.out _ _ (fun _ => HSk.out _ (ext_only' E_qabcp (setRow_only' _ _ _) s8)) ?_
            clear hKk Kk
            simp only [List.setIfInBounds_toArray, List.set_cons_zero, List.set_cons_succ]
            have r9' := ((setRow_only' w_qabcp B8 #[.int .i64 rq, .int .i64 rb, .slice oa on oc, .slice sa sn sc, .slice ea en ec]).block B9 (Ne.symm n89)).trans r9
            have r8' := setRow_heap w_qabcp B8 _ #[.int .i64 rq, .int .i64 rb, .slice oa on oc, .slice sa sn sc, .slice ea en ec] _ _ r8
            refine anyK_one (i := 11) (by kernel_rfl) rfl (fun Kk hKk => ?_)
            refine stepK_storeRow rfl rfl 27 _ _ rfl B9 #[.int .i64 F0, .int .i64 F1] rfl rfl 27 _ r9' ft_info rfl (by kernel_rfl) ?_
            refine hKk.out _ _ (fun h => Bool.noConfusion (show true = false from h)) ?_
            clear hKk Kk
            simp only [List.setIfInBounds_toArray, List.set_cons_zero, List.set_cons_succ]
            refine anyK_done (by kernel_rfl) ?_ _
            go_wp2_with fail
            go_meet
            exact ⟨B8, B9, rq, rb, oa, on, oc, sa, sn, sc, ea, en, ec, out, s0, st, rfl, rfl, ((setRow_only' _ B9 #[.int .i64 F0, .int .i64 F1]).block B8 n89).trans r8', setRow_heap _ B9 _ #[.int .i64 F0, .int .i64 F1] _ _ r9', ext_only' (ext_only' E_qabcp (setRow_only' _ _ _) s8) (setRow_only' _ _ _) s9, fit_lies (P := fun w2 => OpsAt w2 oa on out ∧ IntsAt w2 sa sn s0 ∧ IntsAt w2 ea en st) hyg hxF n8 n9 rfl, ⟨hO4, hO5⟩, ⟨hI2, hI3⟩, ⟨hJ2, hJ3⟩, hR⟩
          · refine stepK_allocR rfl 9 rfl rfl ?_
            refine hKk.out _ _ (fun _ => HSk.out _ (cthen E_qab _)) ?_
            clear hKk Kk
            obtain ⟨w_qabp, hw_qabp⟩ : ∃ V, (w_qab).alloc (.cells #[.int .i64 0, .int .i64 0, .slice none 0 0, .slice none 0 0, .slice none 0 0] 38) = V := ⟨_, rfl⟩
            obtain ⟨B8, hB8⟩ : ∃ B, (w_qab).heap.size = B := ⟨_, rfl⟩
            have hy : Ext (w_qab) w_qabp := by rw [← hw_qabp]; exact ext_al _ _
            have r8 : w_qabp.heap[B8]? = some (.cells #[.int .i64 0, .int .i64 0, .slice none 0 0, .slice none 0 0, .slice none 0 0] 38 (0, 0)) := by rw [← hw_qabp, ← hB8]; exact heap_alloc_new _ _
            have s8 : W0.heap.size ≤ B8 := by rw [← hB8]; exact (E_qab).size
            have E_qabp : Ext W0 w_qabp := (E_qab).trans hy
            have r9 := rowE r9 hy
            have hO1 := hO1.ext hy
            have hL1 := hL1.ext hy
            show anyK _ _ _ _ _ _ _ _ (Act.put _ (some 9) _) _
            simp only [Act.put, List.setIfInBounds_toArray, List.set_cons_zero, List.set_cons_succ]
            rw [hw_qabp, hB8]
            clear hw_qabp hB8 hy
            refine anyK_one (i := 4) (by kernel_rfl) rfl (fun Kk hKk => ?_)
            go_simp
            (go_at_call 13; refine (HFit.out _ (E_qabp) a1 c1 b1 e1 hO1 k2 k3 hL1).mono ?_; rintro e wF ⟨rq, rb, oa, on, oc, sa, sn, sc, ea, en, ec, out, s0, st, rfl, ⟨hO3, hO4, hO5⟩, ⟨hI1, hI2, hI3⟩, ⟨hJ1, hJ2, hJ3⟩, hR, hyg, hy⟩)
            have E_qabpc : Ext W0 wF := (E_qabp).trans hy
            obtain ⟨X3, hX3⟩ : ∃ X, (w_qabp).heap.size = X := ⟨_, rfl⟩
            rw [hX3] at hyg
            have n9 : B9 < X3 ∨ wF.heap.size ≤ B9 := Or.inl (by rw [← hX3]; exact lt_row r9)
            have n8 : B8 < X3 ∨ wF.heap.size ≤ B8 := Or.inl (by rw [← hX3]; exact lt_row r8)
            have hxF : Ext wF wF := Ext.refl _
            have r9 := rowE r9 hy
            have r8 := rowE r8 hy
            clear hy hO1 hL1 hX3 hO3 hI1 hJ1
            go_wp2_with fail
            refine hKk.out _ _ (fun _ => HSk.out _ E_qabpc) ?_
            clear hKk Kk
            simp only [List.setIfInBounds_toArray, List.set_cons_zero, List.set_cons_succ]
            refine anyK_take (i := 5) (v := ?_) rfl (by kernel_rfl) (by kernel_rfl) (by kernel_rfl) (N := 12) (by kernel_rfl) (by kernel_rfl) (by kernel_rfl) (fun _ _ _ h => h) (Or.inl ⟨by rfl, ?_⟩) (HSk.out _ E_qabpc) ?_
            rotate_left 1
            · intro w hSw
              go_simp
              try with_reducible rfl
            show anyK _ _ _ _ _ _ _ _ (Act.put _ (some 23) _) _
            simp only [Act.put, List.setIfInBounds_toArray, List.set_cons_zero, List.set_cons_succ]
            refine anyK_take (i := 6) (v := ?_) rfl (by kernel_rfl) (by kernel_rfl) (by kernel_rfl) (N := 12) (by kernel_rfl) (by kernel_rfl) (by kernel_rfl) (fun _ _ _ h => h) (Or.inl ⟨by rfl, ?_⟩) (HSk.out _ E_qabpc) ?_
            rotate_left 1
            · intro w hSw
              go_simp
              try with_reducible rfl
            show anyK _ _ _ _ _ _ _ _ (Act.put _ (some 29) _) _
            simp only [Act.put, List.setIfInBounds_toArray, List.set_cons_zero, List.set_cons_succ]
            refine anyK_take (i := 7) (v := ?_) rfl (by kernel_rfl) (by kernel_rfl) (by kernel_rfl) (N := 12) (by kernel_rfl) (by kernel_rfl) (by kernel_rfl) (fun _ _ _ h => h) (Or.inl ⟨by rfl, ?_⟩) (HSk.out _ E_qabpc) ?_
            rotate_left 1
            · intro w hSw
              go_simp
              try with_reducible rfl
            show anyK _ _ _ _ _ _ _ _ (Act.put _ (some 30) _) _
            simp only [Act.put, List.setIfInBounds_toArray, List.set_cons_zero, List.set_cons_succ]
            have n89 := ne_rows r8 r9 (by decide)
            refine anyK_one (i := 10) (by kernel_rfl) rfl (fun Kk hKk => ?_)
            refine stepK_storeRow rfl rfl 38 _ _ rfl B8 #[.int .i64 rq, .int .i64 rb, .slice oa on oc, .slice sa sn sc, .slice ea en ec] rfl rfl 38 _ r8 rt_info rfl (by kernel_rfl) ?_
            refine hKk.out _ _ (fun _ => HSk.out _ (ext_only' E_qabpc (setRow_only' _ _ _) s8)) ?_
            clear hKk Kk
            simp only [List.setIfInBounds_toArray, List.set_cons_zero, List.set_cons_succ]
            have r9' := ((setRow_only' wF B8 #[.int .i64 rq, .int .i64 rb, .slice oa on oc, .slice sa sn sc, .slice ea en ec]).block B9 (Ne.symm n89)).trans r9
            have r8' := setRow_heap wF B8 _ #[.int .i64 rq, .int .i64 rb, .slice oa on oc, .slice sa sn sc, .slice ea en ec] _ _ r8
            refine anyK_one (i := 11) (by kernel_rfl) rfl (fun Kk hKk => ?_)
            refine stepK_storeRow rfl rfl 27 _ _ rfl B9 #[.int .i64 F0, .int .i64 F1] rfl rfl 27 _ r9' ft_info rfl (by kernel_rfl) ?_
            refine hKk.out _ _ (fun h => Bool.noConfusion (show true = false from h)) ?_
            clear hKk Kk
            simp only [List.setIfInBounds_toArray, List.set_cons_zero, List.set_cons_succ]
            refine anyK_done (by kernel_rfl) ?_ _
            go_wp2_with fail
            go_meet
            exact ⟨B8, B9, rq, rb, oa, on, oc, sa, sn, sc, ea, en, ec, out, s0, st, rfl, rfl, ((setRow_only' _ B9 #[.int .i64 F0, .int .i64 F1]).block B8 n89).trans r8', setRow_heap _ B9 _ #[.int .i64 F0, .int .i64 F1] _ _ r9', ext_only' (ext_only' E_qabpc (setRow_only' _ _ _) s8) (setRow_only' _ _ _) s9, fit_lies (P := fun w2 => OpsAt w2 oa on out ∧ IntsAt w2 sa sn s0 ∧ IntsAt w2 ea en st) hyg hxF n8 n9 rfl, ⟨hO4, hO5⟩, ⟨hI2, hI3⟩, ⟨hJ2, hJ3⟩, hR⟩
        · refine stepK_allocR rfl 9 rfl rfl ?_
          refine hKk.out _ _ (fun _ => HSk.out _ (cthen E_qa _)) ?_
          clear hKk Kk
          obtain ⟨w_qap, hw_qap⟩ : ∃ V, (w_qa).alloc (.cells #[.int .i64 0, .int .i64 0, .slice none 0 0, .slice none 0 0, .slice none 0 0] 38) = V := ⟨_, rfl⟩
          obtain ⟨B8, hB8⟩ : ∃ B, (w_qa).heap.size = B := ⟨_, rfl⟩
          have hy : Ext (w_qa) w_qap := by rw [← hw_qap]; exact ext_al _ _
          have r8 : w_qap.heap[B8]? = some (.cells #[.int .i64 0, .int .i64 0, .slice none 0 0, .slice none 0 0, .slice none 0 0] 38 (0, 0)) := by rw [← hw_qap, ← hB8]; exact heap_alloc_new _ _
          have s8 : W0.heap.size ≤ B8 := by rw [← hB8]; exact (E_qa).size
          have E_qap : Ext W0 w_qap := (E_qa).trans hy
          have r9 := rowE r9 hy
          have hO1 := hO1.ext hy
          show anyK _ _ _ _ _ _ _ _ (Act.put _ (some 9) _) _
          simp only [Act.put, List.setIfInBounds_toArray, List.set_cons_zero, List.set_cons_succ]
          rw [hw_qap, hB8]
          clear hw_qap hB8 hy
          refine anyK_one (i := 3) (by kernel_rfl) rfl (fun Kk hKk => ?_)
          go_simp
          (go_at_call 7; refine (HCd.out _ (E_qap)).mono ?_; rintro e w_qapb ⟨b1, e1, rfl, ⟨hL1, _, _⟩, hy⟩)
          have E_qapb : Ext W0 w_qapb := (E_qap).trans hy
          have hO1 := hO1.ext hy
          have r9 := rowE r9 hy
          have r8 := rowE r8 hy
          clear hy
          go_wp2_with fail
          refine hKk.out _ _ (fun _ => HSk.out _ E_qapb) ?_
          clear hKk Kk
          simp only [List.setIfInBounds_toArray, List.set_cons_zero, List.set_cons_succ]
          refine anyK_one (i := 4) (by kernel_rfl) rfl (fun Kk hKk => ?_)
          go_simp
          (go_at_call 13; refine (HFit.out _ (E_qapb) a1 c1 b1 e1 hO1 k2 k3 hL1).mono ?_; rintro e wF ⟨rq, rb, oa, on, oc, sa, sn, sc, ea, en, ec, out, s0, st, rfl, ⟨hO3, hO4, hO5⟩, ⟨hI1, hI2, hI3⟩, ⟨hJ1, hJ2, hJ3⟩, hR, hyg, hy⟩)
          have E_qapbc : Ext W0 wF := (E_qapb).trans hy
          obtain ⟨X3, hX3⟩ : ∃ X, (w_qapb).heap.size = X := ⟨_, rfl⟩
          rw [hX3] at hyg
          have n9 : B9 < X3 ∨ wF.heap.size ≤ B9 := Or.inl (by rw [← hX3]; exact lt_row r9)
          have n8 : B8 < X3 ∨ wF.heap.size ≤ B8 := Or.inl (by rw [← hX3]; exact lt_row r8)
          have hxF : Ext wF wF := Ext.refl _
          have r9 := rowE r9 hy
          have r8 := rowE r8 hy
          clear hy hO1 hL1 hX3 hO3 hI1 hJ1
          go_wp2_with fail
          refine hKk.out _ _ (fun _ => HSk.out _ E_qapbc) ?_
          clear hKk Kk
          simp only [List.setIfInBounds_toArray, List.set_cons_zero, List.set_cons_succ]
          refine anyK_take (i := 5) (v := ?_) rfl (by kernel_rfl) (by kernel_rfl) (by kernel_rfl) (N := 12) (by kernel_rfl) (by kernel_rfl) (by kernel_rfl) (fun _ _ _ h => h) (Or.inl ⟨by rfl, ?_⟩) (HSk.out _ E_qapbc) ?_
          rotate_left 1
          · intro w hSw
            go_simp
            try with_reducible rfl
          show anyK _ _ _ _ _ _ _ _ (Act.put _ (some 23) _) _
          simp only [Act.put, List.setIfInBounds_toArray, List.set_cons_zero, List.set_cons_succ]
          refine anyK_take (i := 6) (v := ?_) rfl (by kernel_rfl) (by kernel_rfl) (by kernel_rfl) (N := 12) (by kernel_rfl) (by kernel_rfl) (by kernel_rfl) (fun _ _ _ h => h) (Or.inl ⟨by rfl, ?_⟩) (HSk.out _ E_qapbc) ?_
          rotate_left 1
          · intro w hSw
            go_simp
            try with_reducible rfl
          show anyK _ _ _ _ _ _ _ _ (Act.put _ (some 29) _) _
          simp only [Act.put, List.setIfInBounds_toArray, List.set_cons_zero, List.set_cons_succ]
          refine anyK_take (i := 7) (v := ?_) rfl (by kernel_rfl) (by kernel_rfl) (by kernel_rfl) (N := 12) (by kernel_rfl) (by kernel_rfl) (by kernel_rfl) (fun _ _ _ h => h) (Or.inl ⟨by rfl, ?_⟩) (HSk.out _ E_qapbc) ?_
          rotate_left 1
          · intro w hSw
            go_simp
            try with_reducible rfl
          show anyK _ _ _ _ _ _ _ _ (Act.put _ (some 30) _) _
          simp only [Act.put, List.setIfInBounds_toArray, List.set_cons_zero, List.set_cons_succ]
          have n89 := ne_rows r8 r9 (by decide)
          refine anyK_one (i := 10) (by kernel_rfl) rfl (fun Kk hKk => ?_)
          refine stepK_storeRow rfl rfl 38 _ _ rfl B8 #[.int .i64 rq, .int .i64 rb, .slice oa on oc, .slice sa sn sc, .slice ea en ec] rfl rfl 38 _ r8 rt_info rfl (by kernel_rfl) ?_
          refine hKk.out _ _ (fun _ => HSk.out _ (ext_only' E_qapbc (setRow_only' _ _ _) s8)) ?_
          clear hKk Kk
          simp only [List.setIfInBounds_toArray, List.set_cons_zero, List.set_cons_succ]
          have r9' := ((setRow_only' wF B8 #[.int .i64 rq, .int .i64 rb, .slice oa on oc, .slice sa sn sc, .slice ea en ec]).block B9 (Ne.symm n89)).trans r9
          have r8' := setRow_heap wF B8 _ #[.int .i64 rq, .int .i64 rb, .slice oa on oc, .slice sa sn sc, .slice ea en ec] _ _ r8
          refine anyK_one (i := 11) (by kernel_rfl) rfl (fun Kk hKk => ?_)
          refine stepK_storeRow rfl rfl 27 _ _ rfl B9 #[.int .i64 F0, .int .i64 F1] rfl rfl 27 _ r9' ft_info rfl (by kernel_rfl) ?_
          refine hKk.out _ _ (fun h => Bool.noConfusion (show true = false from h)) ?_
          clear hKk Kk
          simp only [List.setIfInBounds_toArray, List.set_cons_zero, List.set_cons_succ]
          refine anyK_done (by kernel_rfl) ?_ _
          go_wp2_with fail
          go_meet
          exact ⟨B8, B9, rq, rb, oa, on, oc, sa, sn, sc, ea, en, ec, out, s0, st, rfl, rfl, ((setRow_only' _ B9 #[.int .i64 F0, .int .i64 F1]).block B8 n89).trans r8', setRow_heap _ B9 _ #[.int .i64 F0, .int .i64 F1] _ _ r9', ext_only' (ext_only' E_qapbc (setRow_only' _ _ _) s8) (setRow_only' _ _ _) s9, fit_lies (P := fun w2 => OpsAt w2 oa on out ∧ IntsAt w2 sa sn s0 ∧ IntsAt w2 ea en st) hyg hxF n8 n9 rfl, ⟨hO4, hO5⟩, ⟨hI2, hI3⟩, ⟨hJ2, hJ3⟩, hR⟩
      · refine stepK_allocR rfl 9 rfl rfl ?_
        refine hKk.out _ _ (fun _ => HSk.out _ (cthen E_q _)) ?_
        clear hKk Kk
        obtain ⟨w_qp, hw_qp⟩ : ∃ V, (w_q).alloc (.cells #[.int .i64 0, .int .i64 0, .slice none 0 0, .slice none 0 0, .slice none 0 0] 38) = V := ⟨_, rfl⟩
        obtain ⟨B8, hB8⟩ : ∃ B, (w_q).heap.size = B := ⟨_, rfl⟩
        have hy : Ext (w_q) w_qp := by rw [← hw_qp]; exact ext_al _ _
        have r8 : w_qp.heap[B8]? = some (.cells #[.int .i64 0, .int .i64 0, .slice none 0 0, .slice none 0 0, .slice none 0 0] 38 (0, 0)) := by rw [← hw_qp, ← hB8]; exact heap_alloc_new _ _
        have s8 : W0.heap.size ≤ B8 := by rw [← hB8]; exact (E_q).size
        have E_qp : Ext W0 w_qp := (E_q).trans hy
        have r9 := rowE r9 hy
        show anyK _ _ _ _ _ _ _ _ (Act.put _ (some 9) _) _
        simp only [Act.put, List.setIfInBounds_toArray, List.set_cons_zero, List.set_cons_succ]
        rw [hw_qp, hB8]
        clear hw_qp hB8 hy
        refine anyK_one (i := 1) (by kernel_rfl) rfl (fun Kk hKk => ?_)
        go_simp
        (go_at_call 12; refine (HCp.out _ (E_qp)).mono ?_; rintro e w_qpa ⟨⟨a1, c1, rfl, hN1⟩, hy⟩)
        have E_qpa : Ext W0 w_qpa := (E_qp).trans hy
        obtain ⟨_, k2, k3, hO1⟩ := hN1.at
        clear hN1
        have r9 := rowE r9 hy
        have r8 := rowE r8 hy
        clear hy
        go_wp2_with fail
        refine hKk.out _ _ (fun _ => HSk.out _ E_qpa) ?_
        clear hKk Kk
        simp only [List.setIfInBounds_toArray, List.set_cons_zero, List.set_cons_succ]
        refine anyK_one (i := 3) (by kernel_rfl) rfl (fun Kk hKk => ?_)
        go_simp
        (go_at_call 7; refine (HCd.out _ (E_qpa)).mono ?_; rintro e w_qpab ⟨b1, e1, rfl, ⟨hL1, _, _⟩, hy⟩)
        have E_qpab : Ext W0 w_qpab := (E_qpa).trans hy
        have hO1 := hO1.ext hy
        have r9 := rowE r9 hy
        have r8 := rowE r8 hy
        clear hy
        go_wp2_with fail
        refine hKk.out _ _ (fun _ => HSk.out _ E_qpab) ?_
        clear hKk Kk
        simp only [List.setIfInBounds_toArray, List.set_cons_zero, List.set_cons_succ]
        refine anyK_one (i := 4) (by kernel_rfl) rfl (fun Kk hKk => ?_)
        go_simp
        (go_at_call 13; refine (HFit.out _ (E_qpab) a1 c1 b1 e1 hO1 k2 k3 hL1).mono ?_; rintro e wF ⟨rq, rb, oa, on, oc, sa, sn, sc, ea, en, ec, out, s0, st, rfl, ⟨hO3, hO4, hO5⟩, ⟨hI1, hI2, hI3⟩, ⟨hJ1, hJ2, hJ3⟩, hR, hyg, hy⟩)
        have E_qpabc : Ext W0 wF := (E_qpab).trans hy
        obtain ⟨X3, hX3⟩ : ∃ X, (w_qpab).heap.size = X := ⟨_, rfl⟩
        rw [hX3] at hyg
        have n9 : B9 < X3 ∨ wF.heap.size ≤ B9 := Or.inl (by rw [← hX3]; exact lt_row r9)
        have n8 : B8 < X3 ∨ wF.heap.size ≤ B8 := Or.inl (by rw [← hX3]; exact lt_row r8)
        have hxF : Ext wF wF := Ext.refl _
        have r9 := rowE r9 hy
        have r8 := rowE r8 hy
        clear hy hO1 hL1 hX3 hO3 hI1 hJ1
        go_wp2_with fail
        refine hKk.out _ _ (fun _ => HSk.out _ E_qpabc) ?_
        clear hKk Kk
        simp only [List.setIfInBounds_toArray, List.set_cons_zero, List.set_cons_succ]
        refine anyK_take (i := 5) (v := ?_) rfl (by kernel_rfl) (by kernel_rfl) (by kernel_rfl) (N := 12) (by kernel_rfl) (by kernel_rfl) (by kernel_rfl) (fun _ _ _ h => h) (Or.inl ⟨by rfl, ?_⟩) (HSk.out _ E_qpabc) ?_
        rotate_left 1
        · intro w hSw
          go_simp
          try with_reducible rfl
        show anyK _ _ _ _ _ _ _ _ (Act.put _ (some 23) _) _
        simp only [Act.put, List.setIfInBounds_toArray, List.set_cons_zero, List.set_cons_succ]
        refine anyK_take (i := 6) (v := ?_) rfl (by kernel_rfl) (by kernel_rfl) (by kernel_rfl) (N := 12) (by kernel_rfl) (by kernel_rfl) (by kernel_rfl) (fun _ _ _ h => h) (Or.inl ⟨by rfl, ?_⟩) (HSk.out _ E_qpabc) ?_
        rotate_left 1
        · intro w hSw
          go_simp
          try with_reducible rfl
        show anyK _ _ _ _ _ _ _ _ (Act.put _ (some 29) _) _
        simp only [Act.put, List.setIfInBounds_toArray, List.set_cons_zero, List.set_cons_succ]
        refine anyK_take (i := 7) (v := ?_) rfl (by kernel_rfl) (by kernel_rfl) (by kernel_rfl) (N := 12) (by kernel_rfl) (by kernel_rfl) (by kernel_rfl) (fun _ _ _ h => h) (Or.inl ⟨by rfl, ?_⟩) (HSk.out _ E_qpabc) ?_
        rotate_left 1
        · intro w hSw
          go_simp
          try with_reducible rfl
        show anyK _ _ _ _ _ _ _ _ (Act.put _ (some 30) _) _
        simp only [Act.put, List.setIfInBounds_toArray, List.set_cons_zero, List.set_cons_succ]
        have n89 := ne_rows r8 r9 (by decide)
        refine anyK_one (i := 10) (by kernel_rfl) rfl (fun Kk hKk => ?_)
        refine stepK_storeRow rfl rfl 38 _ _ rfl B8 #[.int .i64 rq, .int .i64 rb, .slice oa on oc, .slice sa sn sc, .slice ea en ec] rfl rfl 38 _ r8 rt_info rfl (by kernel_rfl) ?_
        refine hKk.out _ _ (fun _ => HSk.out _ (ext_only' E_qpabc (setRow_only' _ _ _) s8)) ?_
        clear hKk Kk
        simp only [List.setIfInBounds_toArray, List.set_cons_zero, List.set_cons_succ]
        have r9' := ((setRow_only' wF B8 #[.int .i64 rq, .int .i64 rb, .slice oa on oc, .slice sa sn sc, .slice ea en ec]).block B9 (Ne.symm n89)).trans r9
        have r8' := setRow_heap wF B8 _ #[.int .i64 rq, .int .i64 rb, .slice oa on oc, .slice sa sn sc, .slice ea en ec] _ _ r8
        refine anyK_one (i := 11) (by kernel_rfl) rfl (fun Kk hKk => ?_)
        refine stepK_storeRow rfl rfl 27 _ _ rfl B9 #[.int .i64 F0, .int .i64 F1] rfl rfl 27 _ r9' ft_info rfl (by kernel_rfl) ?_
        refine hKk.out _ _ (fun h => Bool.noConfusion (show true = false from h)) ?_
        clear hKk Kk
        simp only [List.setIfInBounds_toArray, List.set_cons_zero, List.set_cons_succ]
        refine anyK_done (by kernel_rfl) ?_ _
        go_wp2_with fail
        go_meet
        exact ⟨B8, B9, rq, rb, oa, on, oc, sa, sn, sc, ea, en, ec, out, s0, st, rfl, rfl, ((setRow_only' _ B9 #[.int .i64 F0, .int .i64 F1]).block B8 n89).trans r8', setRow_heap _ B9 _ #[.int .i64 F0, .int .i64 F1] _ _ r9', ext_only' (ext_only' E_qpabc (setRow_only' _ _ _) s8) (setRow_only' _ _ _) s9, fit_lies (P := fun w2 => OpsAt w2 oa on out ∧ IntsAt w2 sa sn s0 ∧ IntsAt w2 ea en st) hyg hxF n8 n9 rfl, ⟨hO4, hO5⟩, ⟨hI2, hI3⟩, ⟨hJ2, hJ3⟩, hR⟩
  case rest =>
  obtain ⟨K3, K9, rq, rb, oa, on, oc, sa, sn, sc, ea, en, ec, out, s0, st, rfl, rfl, rU3, rF3, E03, ⟨hO3, hI1, hJ1⟩, hO4, hI4, hJ4, hR⟩ := hcut
  have bF3 : FtB _ K9 F0 F1 := ⟨rF3⟩
  have HFF := Lib.hid (FitFault_any ⟨qb, bi, ops⟩ ao n cp N ls bo m cq wc (Hh.out.ext E03) Hn.out.1 Hn.out.2 (Hd.out.ext E03) Hm6.out Hmq.out.1 Hmq.out.2)
  rw [HF.out] at HFF
  simp only at HFF
  obtain ⟨Mo, hMo⟩ : ∃ Mo : Int, (if F0 = 0 then rckN N ops else 0) = Mo := ⟨_, rfl⟩
  rw [hMo] at HFF
  have HE03 := Lib.hid E03; have HrU3 := Lib.hid rU3; have HbF3 := Lib.hid bF3
  have HO3 := Lib.hid (And.intro hO3 hO4); have HI := Lib.hid (And.intro hI1 hI4); have HJ := Lib.hid (And.intro hJ1 hJ4); have HR := Lib.hid hR
  have t5 := (HC.out.ext E03).x0; have t6 := (HC.out.ext E03).x1; have t7 := (HC.out.ext E03).x2; have t8 := (HD.out.ext E03).x0; have t9 := (HD.out.ext E03).x1
  clear hMo rU3 bF3 rF3 E03 hO3 hO4 hI1 hI4 hJ1 hJ4 hR v0 v1 v2 u0 u1 HFit HCp HCd
  go_wp2_with fail
  refine HFF.out.mono ?_
  rintro e w4 ⟨rfl, hx4⟩
  obtain ⟨K4, hK4⟩ : ∃ K, w4.heap.size = K := ⟨_, rfl⟩
  obtain ⟨U4, hU4⟩ : ∃ U, w4.alloc (.cells #[.int .i64 F0, .int .i64 F1] 27) = U := ⟨_, rfl⟩
  have EU4 : Ext w4 U4 := by rw [← hU4]; exact ext_al _ _
  have bU4 : FtB U4 K4 F0 F1 := by rw [← hU4, ← hK4]; exact ⟨heap_alloc_new w4 _⟩
  have EX4 := hx4.trans EU4
  have E04 := HE03.out.trans EX4
  have HX4 := Lib.hid EX4; have HE04 := Lib.hid E04; have HbU4 := Lib.hid bU4; have HU4 := Lib.hid hU4; have HK4 := Lib.hid hK4
  clear t5 t6 t7 t8 t9 hx4 EU4 bU4 EX4 E04 hU4 hK4 HFF
  go_upto_region 3 with fail
  rw [HU4.out, HK4.out]
  clear HU4 HK4
  have HBg := Lib.hid (routeBegun_any U4 (HS.out.ext HE04.out) (bruM_ext HT.out HE04.out))
  have bFr := HbF3.out.ext HX4.out; have bFg := HbU4.out
  have p0 := bFr.x0; have p1 := bFr.x1; have p2 := bFg.x0; have p3 := bFg.x1
  clear bFr bFg
  go_wp2_with fail
  refine HBg.out.mono ?_
  rintro e w5 ⟨rfl, hx5⟩
  have E05 := HE04.out.trans hx5
  have EX5 := HX4.out.trans hx5
  have p0 := cell_ext p0 hx5; have p1 := cell_ext p1 hx5; have p2 := cell_ext p2 hx5; have p3 := cell_ext p3 hx5
  have bC5 := HC.out.ext E05; have bD5 := HD.out.ext E05
  have c0 := bC5.x0; have d0 := bD5.x0
  have hrow := (EX5.block _ (Array.getElem?_eq_some_iff.1 HrU3.out).1).trans HrU3.out
  obtain ⟨y0, y1, y2, y3, y4⟩ := rt_row hrow
  have HE05 := Lib.hid E05; have HX5 := Lib.hid EX5; have Hrow := Lib.hid hrow; have HC5 := Lib.hid bC5; have HD5 := Lib.hid bD5
  clear hx5 E05 EX5 HBg hrow bC5 bD5
  by_cases hz : F0 = 0
  rotate_left 1
  · have hcb := nt hz
    have HEf := Lib.hid (HE0.out.trans HE05.out)
    clear hz y0 y1 y2 y3 y4 c0
    go_wp2_with fail
    go_ret
    exact ⟨rfl, HEf.out⟩
  have hcb := nf' hz
  by_cases h8 : (8 : Int) < N
  · have HEf := Lib.hid (HE0.out.trans HE05.out)
    clear hz y0 y1 y2 y3 y4 c0
    go_wp2_with fail
    go_ret
    exact ⟨rfl, HEf.out⟩
  obtain ⟨hrq, hrb, hrs, hFt⟩ := HR.out.2 (by rw [HF.out]; exact hz)
  have hrq := hrq.symm; have hrb := hrb.symm; have hrs := hrs.symm
  simp only at hrb
  subst hrq; subst hrb; subst hrs
  have hFz := fit_zero (c := ⟨qb, bi, ops⟩) (N := N) (ls := ls) (by rw [HF.out]; exact hz)
  obtain ⟨hck, hdv, hqN, hwr, hrk, _⟩ := hFz
  simp only at hqN hwr hrk
  obtain ⟨_, hq1, hq12, hb0, hb12, hlen, hcode⟩ := chk_zero hck
  simp only at hq1 hq12 hb0 hb12 hlen hcode
  obtain ⟨Qn, rfl⟩ : ∃ Qn : Nat, qb = (Qn : Int) := ⟨qb.toNat, by omega⟩
  simp only [Int.toNat_natCast] at hFt
  have hout := ftd_out (bits := bi) hdv (Q := Qn) (by omega) hq12 hb0 hb12 hFt (fun g hg => ⟨hcode g hg, hwr g hg⟩)
  have hfew := hFt.few hwr
  have hN12 := hdv.n12; have hN1 := hdv.n1
  have hNn : ((N.toNat : Nat) : Int) = N := by omega
  rw [hNn] at hfew
  have hon : out.length = on := HO3.out.1.1
  have hchk := chk_of (qb := N) (bi := bi) (ops := out) hN1 hN12 hb0 hb12 (by omega) (fun g hg => (hout g hg).code)
  obtain ⟨M, hM⟩ : ∃ M : Nat, N = (M : Int) := ⟨N.toNat, by omega⟩
  subst hM
  simp only [Int.toNat_natCast] at hFt hdv hNn
  have hst := hFt.ok (show Qn ≤ M by omega)
  obtain ⟨T1, hT1⟩ : ∃ T : Nat, 2 ^ Qn = T := ⟨_, rfl⟩
  obtain ⟨TM, hTM⟩ : ∃ T : Nat, 2 ^ M = T := ⟨_, rfl⟩
  have hsn : Qn = sn := by have h9 := HI.out.1.1; rw [plN_len] at h9; simp only [Int.toNat_natCast] at h9; omega
  have hen : Qn = en := by have h9 := HJ.out.1.1; have h8 := hst.len; omega
  subst hsn
  subst hen
  have hTb : TM ≤ 256 := by rw [← hTM]; exact Nat.le_trans (Nat.pow_le_pow_right (by decide) (show M ≤ 8 by omega)) (by decide)
  have hT0 : 0 < TM := by rw [← hTM]; exact Nat.two_pow_pos _
  have hT1b : T1 ≤ TM := by rw [← hTM, ← hT1]; exact Nat.pow_le_pow_right (by decide) (by omega)
  have hT10 : 0 < T1 := by rw [← hT1]; exact Nat.two_pow_pos _
  obtain ⟨xn, hxn, hxe⟩ : ∃ xn : Nat, xn < T1 ∧ (xn : Int) = if x < 0 ∨ (T1 : Int) ≤ x then 0 else x := by
    by_cases hb : x < 0 ∨ (T1 : Int) ≤ x
    · exact ⟨0, hT10, by rw [if_pos hb]; rfl⟩
    · exact ⟨x.toNat, by omega, by rw [if_neg hb]; omega⟩
  have hKp := keeps_plain (W := webOf ls) (Q := Qn) (N := (M : Int)) (B := bi) (ops := ops) (out := out) (st := st) hdv.web (by simp only [Int.toNat_natCast]; omega) (by simp only [Int.toNat_natCast]; exact hFt) hck (by rw [hchk]) (x := xn) (by rw [hT1]; exact hxn) want
  obtain ⟨kp1, kp2, kp3, kp4⟩ := hKp
  obtain ⟨SF, hSF⟩ : ∃ F, shoF ⟨(Qn : Int), bi, ops⟩ (xn : Int) want = F := ⟨_, rfl⟩
  obtain ⟨S0, S1⟩ := SF
  obtain ⟨ZF, hZF⟩ : ∃ F, shoF ⟨(M : Int), bi, out⟩ ((sprN (plN Qn) xn Qn : Nat) : Int) want = F := ⟨_, rfl⟩
  obtain ⟨Z0, Z1⟩ := ZF
  obtain ⟨R1, hR1⟩ : ∃ R, shoR ⟨(Qn : Int), bi, ops⟩ (xn : Int) want = R := ⟨_, rfl⟩
  obtain ⟨R2, hR2⟩ : ∃ R, shoR ⟨(M : Int), bi, out⟩ ((sprN (plN Qn) xn Qn : Nat) : Int) want = R := ⟨_, rfl⟩
  have hbl : R1.bits.length ≤ 12 := by
    rw [← hR1]
    show (plM _ _ _ _ _ _).bits.length ≤ 12
    rw [plM_bits, List.length_replicate]
    simp only
    omega
  have Hbl := Lib.hid hbl
  clear hbl
  have hPl1 := fun (wx : World) (k1 : OpsAt wx ao n ops) (k2 : IntsAt wx ta tn want) => QPlay_all ⟨(Qn : Int), bi, ops⟩ ao n cp (xn : Int) ta tn tc want wx k1 Hn.out.1 Hn.out.2 k2
  have hPl2 := fun (wx : World) (k1 : OpsAt wx oa on out) (k2 : IntsAt wx ta tn want) => QPlay_all ⟨(M : Int), bi, out⟩ oa on oc ((sprN (plN Qn) xn Qn : Nat) : Int) ta tn tc want wx k1 HO3.out.2.1 HO3.out.2.2 k2
  rw [hSF, hZF] at kp1
  rw [hSF] at kp4
  rw [hR1, hR2] at kp2
  rw [hR1, hR2] at kp3
  rw [hR1, hR2] at kp4
  simp only [hSF, hR1, Int.toNat_natCast, hT1] at hPl1
  simp only [hZF, hR2, Int.toNat_natCast, hTM] at hPl2
  simp only at kp1
  simp only at kp4
  subst kp1
  rw [← kp2, ← kp3] at hPl2
  have HPl1 := Lib.hid (fun (wx : World) (hx : Ext W0 wx) => hPl1 wx (Hh.out.ext hx) (HTp.out.ext hx))
  have HPl2 := Lib.hid (fun (wx : World) (hx : Ext wc wx) => hPl2 wx (HO3.out.1.ext hx) (HTp.out.ext (HE03.out.trans hx)))
  obtain ⟨sy, hsy⟩ : ∃ y : Nat, sprN (plN Qn) xn Qn = y := ⟨_, rfl⟩
  rw [hsy] at HPl2
  have HSp := Lib.hid (fun (wx : World) (hx : Ext wc wx) => spread_any (plN Qn) Qn M xn sa sc wx (by have h9 := HI.out.1.ext hx; simp only [Int.toNat_natCast] at h9; exact h9) (plN_ok (show Qn ≤ M by omega)) (by omega) (by omega))
  rw [hsy] at HSp
  have HSe := Lib.hid (fun (wx : World) (hx : Ext wc wx) (j : Nat) => spread_any st Qn M j ea ec wx (HJ.out.1.ext hx) hst (by omega) (by omega))
  have HP1 := Lib.hid (fun (wx : World) (hx : Ext wc wx) => lplaces_any (plN Qn) Qn M sa sc wx (by have h9 := HI.out.1.ext hx; simp only [Int.toNat_natCast] at h9; exact h9) (plN_ok (show Qn ≤ M by omega)) (by omega))
  have HP2 := Lib.hid (fun (wx : World) (hx : Ext wc wx) => lplaces_any st Qn M ea ec wx (HJ.out.1.ext hx) hst (by omega))
  have Hst := Lib.hid hst; have HT1 := Lib.hid hT1; have HTM := Lib.hid hTM; have HTb := Lib.hid hTb; have HT0 := Lib.hid hT0; have HT1b := Lib.hid hT1b; have Hkp4 := Lib.hid kp4; have Hq := Lib.hid (show Qn ≤ M ∧ M ≤ 8 by omega)
  have hs8 : wrap64 (2 ^ min Qn 64) = (T1 : Int) := by rw [← hT1]; exact shl1 (by omega)
  have hq0 : (0 : Int) ≤ (Qn : Int) := by omega
  have h8' : ¬ (8 : Int) < (M : Int) := h8
  have c1 := HC5.out.x1; have c2 := HC5.out.x2
  clear hFt hck hdv hqN hwr hrk hq1 hq12 hb0 hb12 hlen hcode hout hfew hN12 hN1 hNn hon hchk kp2 kp3 kp4 hPl1 hPl2 hSF hZF hR1 hR2 hsy hst hT1 hTM hTb hT0 hT1b hT10 hz h8 hxn HR HF HbF3 HbU4 HO3 HI HJ HrU3
  go_wp2_with fail
  refine (HP1.out w5 HX5.out).mono ?_
  rintro e w6 ⟨rfl, hx6⟩
  have c0 := cell_ext c0 hx6; have d0 := cell_ext d0 hx6; have y4 := cell_ext y4 hx6
  have Hx6 := Lib.hid hx6
  clear hx6
  go_wp2_with fail
  refine (HP2.out w6 (HX5.out.trans Hx6.out)).mono ?_
  rintro e w7 ⟨rfl, hx7⟩
  have hx57 := Hx6.out.trans hx7
  have c0 := cell_ext c0 hx7; have c1 := cell_ext c1 hx57; have c2 := cell_ext c2 hx57; have y0 := cell_ext y0 hx57; have y1 := cell_ext y1 hx57; have y2 := cell_ext y2 hx57; have y3 := cell_ext y3 hx57; have y4 := cell_ext y4 hx7
  have HX7 := Lib.hid (HX5.out.trans hx57); have HE7 := Lib.hid (HE05.out.trans hx57)
  clear hx7 hx57 p0 p1 p2 p3 d0 hcb Hx6 HX5 HE05 HP1 HP2 Hrow HC5 HD5
  obtain ⟨Bv, hBv⟩ : ∃ Bv, decide (x < 0 ∨ (T1 : Int) ≤ x) = Bv := ⟨_, rfl⟩
  have HBv := Lib.hid hBv; have Hxe := Lib.hid hxe
  clear hBv hxe
  go_upto_region 7 with fail
  go_cut [88] from 80 to 88 (fun s88 wx => s88 = .bool Bv ∧ w7 = wx)
  case first =>
    by_cases k5 : x < 0
    · have HF := Lib.hid (show true = Bv by rw [← HBv.out]; exact (dt (Or.inl k5)).symm)
      go_wp2_with fail
      go_meet
      exact ⟨congrArg Value.bool HF.out, rfl⟩
    by_cases k6 : (T1 : Int) ≤ x
    · have HF := Lib.hid (show true = Bv by rw [← HBv.out]; exact (dt (Or.inr k6)).symm)
      go_wp2_with fail
      go_meet
      exact ⟨congrArg Value.bool HF.out, rfl⟩
    have HF := Lib.hid (show false = Bv by rw [← HBv.out]; exact (df (by omega)).symm)
    go_wp2_with fail
    go_meet
    exact ⟨congrArg Value.bool HF.out, rfl⟩
  case rest =>
  obtain ⟨rfl, rfl⟩ := hcut
  go_upto_if 88 with fail
  go_cut [2] from 80 to 88 (fun s2 wx => s2 = .int .i64 (xn : Int) ∧ w7 = wx)
  case first =>
    by_cases k5 : x < 0 ∨ (T1 : Int) ≤ x
    · have HF := Lib.hid (show (0 : Int) = (xn : Int) by rw [Hxe.out, if_pos k5])
      have b5 : Bv = true := by rw [← HBv.out]; exact dt k5
      subst b5
      clear k5
      go_wp2_with fail
      go_meet
      exact ⟨congrArg (Value.int .i64) HF.out, rfl⟩
    · have HF := Lib.hid (show x = (xn : Int) by rw [Hxe.out, if_neg k5])
      have b5 : Bv = false := by rw [← HBv.out]; exact df k5
      subst b5
      clear k5
      go_wp2_with fail
      go_meet
      exact ⟨congrArg (Value.int .i64) HF.out, rfl⟩
  case rest =>
  obtain ⟨rfl, rfl⟩ := hcut
  clear hs8 hq0 HBv Hxe h8'
  go_wp2_with fail
  refine (HPl1.out w7 HE7.out).mono ?_
  rintro e w8 ⟨r0, r1, r2, rfl, hx8, hA8, hB8⟩
  obtain ⟨K8, hK8⟩ : ∃ K, w8.heap.size = K := ⟨_, rfl⟩
  obtain ⟨U8, hU8⟩ : ∃ U, w8.alloc (.cells #[.int .i64 S0, .int .i64 S1] 27) = U := ⟨_, rfl⟩
  have EU8 : Ext w8 U8 := by rw [← hU8]; exact ext_al _ _
  have bU8 : FtB U8 K8 S0 S1 := by rw [← hU8, ← hK8]; exact ⟨heap_alloc_new w8 _⟩
  have EX8 := hx8.trans EU8
  have y0 := cell_ext y0 EX8; have y1 := cell_ext y1 EX8; have y2 := cell_ext y2 EX8; have y3 := cell_ext y3 EX8; have y4 := cell_ext y4 EX8
  have lK : K3 < U8.heap.size := World.block_lt_of_cell? _ ⟨K3, 0, none⟩ y0
  have HX8 := Lib.hid (HX7.out.trans EX8); have HE8 := Lib.hid (HE7.out.trans EX8); have HbU8 := Lib.hid bU8; have HU8 := Lib.hid hU8; have HK8 := Lib.hid hK8; have HA8 := Lib.hid hA8; have HB8 := Lib.hid hB8; have HEU8 := Lib.hid EU8
  clear hx8 EU8 bU8 EX8 hU8 hK8 hA8 hB8 c0 c1 c2 HPl1 HX7 HE7
  go_upto_region 10 with fail
  rw [HU8.out, HK8.out]
  clear HU8 HK8
  go_cut [17, 18, 19, 20] from 98 to 110 (fun s17 s18 s19 s20 wx => ∃ (B3 : Nat), s20 = .pointer (some ⟨B3, 0, none⟩) ∧ wx.heap[B3]? = some (.cells #[.int .i64 S0, .int .i64 Z1] 27 (0, 0)) ∧ Ext U8 wx ∧ PlR U8 wx S0 TM R2.s R1.bits R1.u s17 s18 s19)
  case first =>
    have HSj := Lib.hid (fun (w' : World) (hx : Ext U8 w') => (show w'.cell? ⟨K3, 0, none⟩ = some (.int .i64 (M : Int)) ∧ w'.cell? ⟨K3, 1, none⟩ = some (.int .i64 bi) ∧ w'.cell? ⟨K3, 2, none⟩ = some (.slice oa on oc) ∧ w'.cell? ⟨K3, 3, none⟩ = some (.slice sa Qn sc) from ⟨cell_ext y0 hx, cell_ext y1 hx, cell_ext y2 hx, cell_ext y3 hx⟩))
    clear y0 y1 y2 y3 y4
    have G_ : Ext U8 U8.drew := Below.drew (Ext.refl _)
    refine wp_region_K 17 (fun w' => w'.cell? ⟨K3, 0, none⟩ = some (.int .i64 (M : Int)) ∧ w'.cell? ⟨K3, 1, none⟩ = some (.int .i64 bi) ∧ w'.cell? ⟨K3, 2, none⟩ = some (.slice oa on oc) ∧ w'.cell? ⟨K3, 3, none⟩ = some (.slice sa Qn sc)) (by kernel_rfl) ?_
    show anyK _ _ _ _ _ _ 18 #[false, false, false, false, false, false, false, false, false, false, false, false, false, false, false, false, false, false] _ _
    refine anyK_take (i := 0) (v := ?_) rfl (by kernel_rfl) (by kernel_rfl) (by kernel_rfl) (N := 18) (by kernel_rfl) (by kernel_rfl) (by kernel_rfl) (fun _ _ _ h => h) (Or.inl ⟨by rfl, ?_⟩) (HSj.out _ G_) ?_
    rotate_left 1
    · intro w hSw
      go_simp
      try with_reducible rfl
    show anyK _ _ _ _ _ _ _ _ (Act.put _ (some 99) _) _
    simp only [Act.put, List.setIfInBounds_toArray, List.set_cons_zero, List.set_cons_succ]
    refine anyK_take (i := 1) (v := ?_) rfl (by kernel_rfl) (by kernel_rfl) (by kernel_rfl) (N := 18) (by kernel_rfl) (by kernel_rfl) (by kernel_rfl) (fun _ _ _ h => h) (Or.inl ⟨by rfl, ?_⟩) (HSj.out _ G_) ?_
    rotate_left 1
    · intro w hSw
      go_simp
      try with_reducible rfl
    show anyK _ _ _ _ _ _ _ _ (Act.put _ (some 100) _) _
    simp only [Act.put, List.setIfInBounds_toArray, List.set_cons_zero, List.set_cons_succ]
    refine anyK_take (i := 2) (v := ?_) rfl (by kernel_rfl) (by kernel_rfl) (by kernel_rfl) (N := 18) (by kernel_rfl) (by kernel_rfl) (by kernel_rfl) (fun _ _ _ h => h) (Or.inl ⟨by rfl, ?_⟩) (HSj.out _ G_) ?_
    rotate_left 1
    · intro w hSw
      go_simp
      try with_reducible rfl
    show anyK _ _ _ _ _ _ _ _ (Act.put _ (some 101) _) _
    simp only [Act.put, List.setIfInBounds_toArray, List.set_cons_zero, List.set_cons_succ]
    refine anyK_take (i := 3) (v := ?_) rfl (by kernel_rfl) (by kernel_rfl) (by kernel_rfl) (N := 18) (by kernel_rfl) (by kernel_rfl) (by kernel_rfl) (fun _ _ _ h => h) (Or.inl ⟨by rfl, ?_⟩) (HSj.out _ G_) ?_
    rotate_left 1
    · intro w hSw
      go_simp
      try with_reducible rfl
    show anyK _ _ _ _ _ _ _ _ (Act.put _ (some 102) _) _
    simp only [Act.put, List.setIfInBounds_toArray, List.set_cons_zero, List.set_cons_succ]
    refine anyK_take (i := 4) (v := ?_) rfl (by kernel_rfl) (by kernel_rfl) (by kernel_rfl) (N := 18) (by kernel_rfl) (by kernel_rfl) (by kernel_rfl) (fun _ _ _ h => h) (Or.inl ⟨by rfl, ?_⟩) (HSj.out _ G_) ?_
    rotate_left 1
    · intro w hSw
      go_simp
      try with_reducible rfl
    show anyK _ _ _ _ _ _ _ _ (Act.put _ (some 103) _) _
    simp only [Act.put, List.setIfInBounds_toArray, List.set_cons_zero, List.set_cons_succ]
    refine anyK_take (i := 6) (v := ?_) rfl (by kernel_rfl) (by kernel_rfl) (by kernel_rfl) (N := 18) (by kernel_rfl) (by kernel_rfl) (by kernel_rfl) (fun _ _ _ h => h) (Or.inl ⟨by rfl, ?_⟩) (HSj.out _ G_) ?_
    rotate_left 1
    · intro w hSw
      go_simp
      try with_reducible rfl
    show anyK _ _ _ _ _ _ _ _ (Act.put _ (some 105) _) _
    simp only [Act.put, List.setIfInBounds_toArray, List.set_cons_zero, List.set_cons_succ]
    refine anyK_pair (i := 5) (j := 13) (by kernel_rfl) rfl rfl (fun Kk hKk => ?_) (fun Kk hKk => ?_)
    · go_simp
      (go_at_call 21; refine (HSp.out _ (HX8.out.trans (G_))).mono ?_; rintro e v_a ⟨rfl, hy⟩)
      have G_a : Ext U8 v_a := (G_).trans hy
      clear hy
      go_wp2_with fail
      refine hKk.out _ _ (fun _ => HSj.out _ G_a) ?_
      clear hKk Kk
      simp only [List.setIfInBounds_toArray, List.set_cons_zero, List.set_cons_succ]
      refine anyK_pair (i := 7) (j := 13) (by kernel_rfl) rfl rfl (fun Kk hKk => ?_) (fun Kk hKk => ?_)
      · go_simp
        (go_at_call 20; refine (HPl2.out _ (HX8.out.trans (G_a))).mono ?_; rintro e v_ab ⟨q0, q1, q2, rfl, hy, hA10, hB10⟩)
        have G_ab : Ext U8 v_ab := (G_a).trans hy
        have hPR : PlR U8 v_ab S0 TM R2.s R1.bits R1.u q0 q1 q2 := PlR.base ⟨hA10, hB10⟩ (G_a)
        clear hA10 hB10
        clear hy
        go_wp2_with fail
        refine hKk.out _ _ (fun _ => HSj.out _ G_ab) ?_
        clear hKk Kk
        simp only [List.setIfInBounds_toArray, List.set_cons_zero, List.set_cons_succ]
        refine anyK_take (i := 8) (v := ?_) rfl (by kernel_rfl) (by kernel_rfl) (by kernel_rfl) (N := 18) (by kernel_rfl) (by kernel_rfl) (by kernel_rfl) (fun _ _ _ h => h) (Or.inl ⟨by rfl, ?_⟩) (HSj.out _ G_ab) ?_
        rotate_left 1
        · intro w hSw
          go_simp
          try with_reducible rfl
        show anyK _ _ _ _ _ _ _ _ (Act.put _ (some 98) _) _
        simp only [Act.put, List.setIfInBounds_toArray, List.set_cons_zero, List.set_cons_succ]
        refine anyK_take (i := 9) (v := ?_) rfl (by kernel_rfl) (by kernel_rfl) (by kernel_rfl) (N := 18) (by kernel_rfl) (by kernel_rfl) (by kernel_rfl) (fun _ _ _ h => h) (Or.inl ⟨by rfl, ?_⟩) (HSj.out _ G_ab) ?_
        rotate_left 1
        · intro w hSw
          go_simp
          try with_reducible rfl
        show anyK _ _ _ _ _ _ _ _ (Act.put _ (some 107) _) _
        simp only [Act.put, List.setIfInBounds_toArray, List.set_cons_zero, List.set_cons_succ]
        refine anyK_take (i := 10) (v := ?_) rfl (by kernel_rfl) (by kernel_rfl) (by kernel_rfl) (N := 18) (by kernel_rfl) (by kernel_rfl) (by kernel_rfl) (fun _ _ _ h => h) (Or.inl ⟨by rfl, ?_⟩) (HSj.out _ G_ab) ?_
        rotate_left 1
        · intro w hSw
          go_simp
          try with_reducible rfl
        show anyK _ _ _ _ _ _ _ _ (Act.put _ (some 108) _) _
        simp only [Act.put, List.setIfInBounds_toArray, List.set_cons_zero, List.set_cons_succ]
        refine anyK_take (i := 11) (v := ?_) rfl (by kernel_rfl) (by kernel_rfl) (by kernel_rfl) (N := 18) (by kernel_rfl) (by kernel_rfl) (by kernel_rfl) (fun _ _ _ h => h) (Or.inl ⟨by rfl, ?_⟩) (HSj.out _ G_ab) ?_
        rotate_left 1
        · intro w hSw
          go_simp
          try with_reducible rfl
        show anyK _ _ _ _ _ _ _ _ (Act.put _ (some 109) _) _
        simp only [Act.put, List.setIfInBounds_toArray, List.set_cons_zero, List.set_cons_succ]
        refine anyK_take (i := 12) (v := ?_) rfl (by kernel_rfl) (by kernel_rfl) (by kernel_rfl) (N := 18) (by kernel_rfl) (by kernel_rfl) (by kernel_rfl) (fun _ _ _ h => h) (Or.inl ⟨by rfl, ?_⟩) (HSj.out _ G_ab) ?_
        rotate_left 1
        · intro w hSw
          go_simp
          try with_reducible rfl
        show anyK _ _ _ _ _ _ _ _ (Act.put _ (some 110) _) _
        simp only [Act.put, List.setIfInBounds_toArray, List.set_cons_zero, List.set_cons_succ]
        refine anyK_one (i := 13) (by kernel_rfl) rfl (fun Kk hKk => ?_)
        refine stepK_allocF rfl 20 rfl rfl ?_
        refine hKk.out _ _ (fun _ => HSj.out _ (cthen G_ab _)) ?_
        clear hKk Kk
        obtain ⟨v_abp, hv_abp⟩ : ∃ V, (v_ab).alloc (.cells #[.int .i64 0, .int .i64 0] 27) = V := ⟨_, rfl⟩
        obtain ⟨B3, hB3⟩ : ∃ B, (v_ab).heap.size = B := ⟨_, rfl⟩
        have hy : Ext (v_ab) v_abp := by rw [← hv_abp]; exact ext_al _ _
        have r3 : v_abp.heap[B3]? = some (.cells #[.int .i64 0, .int .i64 0] 27 (0, 0)) := by rw [← hv_abp, ← hB3]; exact heap_alloc_new _ _
        have s3 : U8.heap.size ≤ B3 := by rw [← hB3]; exact (G_ab).size
        have G_abp : Ext U8 v_abp := (G_ab).trans hy
        have hPR := hPR.grow hy
        show anyK _ _ _ _ _ _ _ _ (Act.put _ (some 20) _) _
        simp only [Act.put, List.setIfInBounds_toArray, List.set_cons_zero, List.set_cons_succ]
        rw [hv_abp, hB3]
        clear hv_abp hB3 hy
        refine anyK_take (i := 14) (v := ?_) rfl (by kernel_rfl) (by kernel_rfl) (by kernel_rfl) (N := 18) (by kernel_rfl) (by kernel_rfl) (by kernel_rfl) (fun _ _ _ h => h) (Or.inl ⟨by rfl, ?_⟩) (HSj.out _ G_abp) ?_
        rotate_left 1
        · intro w hSw
          go_simp
          try with_reducible rfl
        show anyK _ _ _ _ _ _ _ _ (Act.put _ (some 17) _) _
        simp only [Act.put, List.setIfInBounds_toArray, List.set_cons_zero, List.set_cons_succ]
        refine anyK_take (i := 15) (v := ?_) rfl (by kernel_rfl) (by kernel_rfl) (by kernel_rfl) (N := 18) (by kernel_rfl) (by kernel_rfl) (by kernel_rfl) (fun _ _ _ h => h) (Or.inl ⟨by rfl, ?_⟩) (HSj.out _ G_abp) ?_
        rotate_left 1
        · intro w hSw
          go_simp
          try with_reducible rfl
        show anyK _ _ _ _ _ _ _ _ (Act.put _ (some 18) _) _
        simp only [Act.put, List.setIfInBounds_toArray, List.set_cons_zero, List.set_cons_succ]
        refine anyK_take (i := 16) (v := ?_) rfl (by kernel_rfl) (by kernel_rfl) (by kernel_rfl) (N := 18) (by kernel_rfl) (by kernel_rfl) (by kernel_rfl) (fun _ _ _ h => h) (Or.inl ⟨by rfl, ?_⟩) (HSj.out _ G_abp) ?_
        rotate_left 1
        · intro w hSw
          go_simp
          try with_reducible rfl
        show anyK _ _ _ _ _ _ _ _ (Act.put _ (some 19) _) _
        simp only [Act.put, List.setIfInBounds_toArray, List.set_cons_zero, List.set_cons_succ]
        refine anyK_one (i := 17) (by kernel_rfl) rfl (fun Kk hKk => ?_)
        refine stepK_storeRow rfl rfl 27 _ _ rfl B3 #[.int .i64 S0, .int .i64 Z1] rfl rfl 27 _ r3 ft_info rfl (by kernel_rfl) ?_
        refine hKk.out _ _ (fun h => Bool.noConfusion (show true = false from h)) ?_
        clear hKk Kk
        simp only [List.setIfInBounds_toArray, List.set_cons_zero, List.set_cons_succ]
        refine anyK_done (by kernel_rfl) ?_ _
        have Hfin := Lib.hid (And.intro (setRow_heap v_abp B3 _ #[.int .i64 S0, .int .i64 Z1] _ _ r3) (And.intro (ext_only' G_abp (setRow_only' v_abp B3 #[.int .i64 S0, .int .i64 Z1]) s3) (hPR.put r3 s3 #[.int .i64 S0, .int .i64 Z1])))
        go_wp2_with fail
        go_meet
        exact ⟨B3, rfl, Hfin.out.1, Hfin.out.2.1, Hfin.out.2.2⟩
      · refine stepK_allocF rfl 20 rfl rfl ?_
        refine hKk.out _ _ (fun _ => HSj.out _ (cthen G_a _)) ?_
        clear hKk Kk
        obtain ⟨v_ap, hv_ap⟩ : ∃ V, (v_a).alloc (.cells #[.int .i64 0, .int .i64 0] 27) = V := ⟨_, rfl⟩
        obtain ⟨B3, hB3⟩ : ∃ B, (v_a).heap.size = B := ⟨_, rfl⟩
        have hy : Ext (v_a) v_ap := by rw [← hv_ap]; exact ext_al _ _
        have r3 : v_ap.heap[B3]? = some (.cells #[.int .i64 0, .int .i64 0] 27 (0, 0)) := by rw [← hv_ap, ← hB3]; exact heap_alloc_new _ _
        have s3 : U8.heap.size ≤ B3 := by rw [← hB3]; exact (G_a).size
        have G_ap : Ext U8 v_ap := (G_a).trans hy
        show anyK _ _ _ _ _ _ _ _ (Act.put _ (some 20) _) _
        simp only [Act.put, List.setIfInBounds_toArray, List.set_cons_zero, List.set_cons_succ]
        rw [hv_ap, hB3]
        clear hv_ap hB3 hy
        refine anyK_one (i := 7) (by kernel_rfl) rfl (fun Kk hKk => ?_)
        go_simp
        (go_at_call 20; refine (HPl2.out _ (HX8.out.trans (G_ap))).mono ?_; rintro e v_apb ⟨q0, q1, q2, rfl, hy, hA10, hB10⟩)
        have G_apb : Ext U8 v_apb := (G_ap).trans hy
        have hPR : PlR U8 v_apb S0 TM R2.s R1.bits R1.u q0 q1 q2 := PlR.base ⟨hA10, hB10⟩ (G_ap)
        clear hA10 hB10
        have r3 := rowE r3 hy
        clear hy
        go_wp2_with fail
        refine hKk.out _ _ (fun _ => HSj.out _ G_apb) ?_
        clear hKk Kk
        simp only [List.setIfInBounds_toArray, List.set_cons_zero, List.set_cons_succ]
        refine anyK_take (i := 8) (v := ?_) rfl (by kernel_rfl) (by kernel_rfl) (by kernel_rfl) (N := 18) (by kernel_rfl) (by kernel_rfl) (by kernel_rfl) (fun _ _ _ h => h) (Or.inl ⟨by rfl, ?_⟩) (HSj.out _ G_apb) ?_
        rotate_left 1
        · intro w hSw
          go_simp
          try with_reducible rfl
        show anyK _ _ _ _ _ _ _ _ (Act.put _ (some 98) _) _
        simp only [Act.put, List.setIfInBounds_toArray, List.set_cons_zero, List.set_cons_succ]
        refine anyK_take (i := 9) (v := ?_) rfl (by kernel_rfl) (by kernel_rfl) (by kernel_rfl) (N := 18) (by kernel_rfl) (by kernel_rfl) (by kernel_rfl) (fun _ _ _ h => h) (Or.inl ⟨by rfl, ?_⟩) (HSj.out _ G_apb) ?_
        rotate_left 1
        · intro w hSw
          go_simp
          try with_reducible rfl
        show anyK _ _ _ _ _ _ _ _ (Act.put _ (some 107) _) _
        simp only [Act.put, List.setIfInBounds_toArray, List.set_cons_zero, List.set_cons_succ]
        refine anyK_take (i := 10) (v := ?_) rfl (by kernel_rfl) (by kernel_rfl) (by kernel_rfl) (N := 18) (by kernel_rfl) (by kernel_rfl) (by kernel_rfl) (fun _ _ _ h => h) (Or.inl ⟨by rfl, ?_⟩) (HSj.out _ G_apb) ?_
        rotate_left 1
        · intro w hSw
          go_simp
          try with_reducible rfl
        show anyK _ _ _ _ _ _ _ _ (Act.put _ (some 108) _) _
        simp only [Act.put, List.setIfInBounds_toArray, List.set_cons_zero, List.set_cons_succ]
        refine anyK_take (i := 11) (v := ?_) rfl (by kernel_rfl) (by kernel_rfl) (by kernel_rfl) (N := 18) (by kernel_rfl) (by kernel_rfl) (by kernel_rfl) (fun _ _ _ h => h) (Or.inl ⟨by rfl, ?_⟩) (HSj.out _ G_apb) ?_
        rotate_left 1
        · intro w hSw
          go_simp
          try with_reducible rfl
        show anyK _ _ _ _ _ _ _ _ (Act.put _ (some 109) _) _
        simp only [Act.put, List.setIfInBounds_toArray, List.set_cons_zero, List.set_cons_succ]
        refine anyK_take (i := 12) (v := ?_) rfl (by kernel_rfl) (by kernel_rfl) (by kernel_rfl) (N := 18) (by kernel_rfl) (by kernel_rfl) (by kernel_rfl) (fun _ _ _ h => h) (Or.inl ⟨by rfl, ?_⟩) (HSj.out _ G_apb) ?_
        rotate_left 1
        · intro w hSw
          go_simp
          try with_reducible rfl
        show anyK _ _ _ _ _ _ _ _ (Act.put _ (some 110) _) _
        simp only [Act.put, List.setIfInBounds_toArray, List.set_cons_zero, List.set_cons_succ]
        refine anyK_take (i := 14) (v := ?_) rfl (by kernel_rfl) (by kernel_rfl) (by kernel_rfl) (N := 18) (by kernel_rfl) (by kernel_rfl) (by kernel_rfl) (fun _ _ _ h => h) (Or.inl ⟨by rfl, ?_⟩) (HSj.out _ G_apb) ?_
        rotate_left 1
        · intro w hSw
          go_simp
          try with_reducible rfl
        show anyK _ _ _ _ _ _ _ _ (Act.put _ (some 17) _) _
        simp only [Act.put, List.setIfInBounds_toArray, List.set_cons_zero, List.set_cons_succ]
        refine anyK_take (i := 15) (v := ?_) rfl (by kernel_rfl) (by kernel_rfl) (by kernel_rfl) (N := 18) (by kernel_rfl) (by kernel_rfl) (by kernel_rfl) (fun _ _ _ h => h) (Or.inl ⟨by rfl, ?_⟩) (HSj.out _ G_apb) ?_
        rotate_left 1
        · intro w hSw
          go_simp
          try with_reducible rfl
        show anyK _ _ _ _ _ _ _ _ (Act.put _ (some 18) _) _
        simp only [Act.put, List.setIfInBounds_toArray, List.set_cons_zero, List.set_cons_succ]
        refine anyK_take (i := 16) (v := ?_) rfl (by kernel_rfl) (by kernel_rfl) (by kernel_rfl) (N := 18) (by kernel_rfl) (by kernel_rfl) (by kernel_rfl) (fun _ _ _ h => h) (Or.inl ⟨by rfl, ?_⟩) (HSj.out _ G_apb) ?_
        rotate_left 1
        · intro w hSw
          go_simp
          try with_reducible rfl
        show anyK _ _ _ _ _ _ _ _ (Act.put _ (some 19) _) _
        simp only [Act.put, List.setIfInBounds_toArray, List.set_cons_zero, List.set_cons_succ]
        refine anyK_one (i := 17) (by kernel_rfl) rfl (fun Kk hKk => ?_)
        refine stepK_storeRow rfl rfl 27 _ _ rfl B3 #[.int .i64 S0, .int .i64 Z1] rfl rfl 27 _ r3 ft_info rfl (by kernel_rfl) ?_
        refine hKk.out _ _ (fun h => Bool.noConfusion (show true = false from h)) ?_
        clear hKk Kk
        simp only [List.setIfInBounds_toArray, List.set_cons_zero, List.set_cons_succ]
        refine anyK_done (by kernel_rfl) ?_ _
        have Hfin := Lib.hid (And.intro (setRow_heap v_apb B3 _ #[.int .i64 S0, .int .i64 Z1] _ _ r3) (And.intro (ext_only' G_apb (setRow_only' v_apb B3 #[.int .i64 S0, .int .i64 Z1]) s3) (hPR.put r3 s3 #[.int .i64 S0, .int .i64 Z1])))
        go_wp2_with fail
        go_meet
        exact ⟨B3, rfl, Hfin.out.1, Hfin.out.2.1, Hfin.out.2.2⟩
    · refine stepK_allocF rfl 20 rfl rfl ?_
      refine hKk.out _ _ (fun _ => HSj.out _ (cthen G_ _)) ?_
      clear hKk Kk
      obtain ⟨v_p, hv_p⟩ : ∃ V, (U8.drew).alloc (.cells #[.int .i64 0, .int .i64 0] 27) = V := ⟨_, rfl⟩
      obtain ⟨B3, hB3⟩ : ∃ B, (U8.drew).heap.size = B := ⟨_, rfl⟩
      have hy : Ext (U8.drew) v_p := by rw [← hv_p]; exact ext_al _ _
      have r3 : v_p.heap[B3]? = some (.cells #[.int .i64 0, .int .i64 0] 27 (0, 0)) := by rw [← hv_p, ← hB3]; exact heap_alloc_new _ _
      have s3 : U8.heap.size ≤ B3 := by rw [← hB3]; exact (G_).size
      have G_p : Ext U8 v_p := (G_).trans hy
      show anyK _ _ _ _ _ _ _ _ (Act.put _ (some 20) _) _
      simp only [Act.put, List.setIfInBounds_toArray, List.set_cons_zero, List.set_cons_succ]
      rw [hv_p, hB3]
      clear hv_p hB3 hy
      refine anyK_one (i := 5) (by kernel_rfl) rfl (fun Kk hKk => ?_)
      go_simp
      (go_at_call 21; refine (HSp.out _ (HX8.out.trans (G_p))).mono ?_; rintro e v_pa ⟨rfl, hy⟩)
      have G_pa : Ext U8 v_pa := (G_p).trans hy
      have r3 := rowE r3 hy
      clear hy
      go_wp2_with fail
      refine hKk.out _ _ (fun _ => HSj.out _ G_pa) ?_
      clear hKk Kk
      simp only [List.setIfInBounds_toArray, List.set_cons_zero, List.set_cons_succ]
      refine anyK_one (i := 7) (by kernel_rfl) rfl (fun Kk hKk => ?_)
      go_simp
      (go_at_call 20; refine (HPl2.out _ (HX8.out.trans (G_pa))).mono ?_; rintro e v_pab ⟨q0, q1, q2, rfl, hy, hA10, hB10⟩)
      have G_pab : Ext U8 v_pab := (G_pa).trans hy
      have hPR : PlR U8 v_pab S0 TM R2.s R1.bits R1.u q0 q1 q2 := PlR.base ⟨hA10, hB10⟩ (G_pa)
      clear hA10 hB10
      have r3 := rowE r3 hy
      clear hy
      go_wp2_with fail
      refine hKk.out _ _ (fun _ => HSj.out _ G_pab) ?_
      clear hKk Kk
      simp only [List.setIfInBounds_toArray, List.set_cons_zero, List.set_cons_succ]
      refine anyK_take (i := 8) (v := ?_) rfl (by kernel_rfl) (by kernel_rfl) (by kernel_rfl) (N := 18) (by kernel_rfl) (by kernel_rfl) (by kernel_rfl) (fun _ _ _ h => h) (Or.inl ⟨by rfl, ?_⟩) (HSj.out _ G_pab) ?_
      rotate_left 1
      · intro w hSw
        go_simp
        try with_reducible rfl
      show anyK _ _ _ _ _ _ _ _ (Act.put _ (some 98) _) _
      simp only [Act.put, List.setIfInBounds_toArray, List.set_cons_zero, List.set_cons_succ]
      refine anyK_take (i := 9) (v := ?_) rfl (by kernel_rfl) (by kernel_rfl) (by kernel_rfl) (N := 18) (by kernel_rfl) (by kernel_rfl) (by kernel_rfl) (fun _ _ _ h => h) (Or.inl ⟨by rfl, ?_⟩) (HSj.out _ G_pab) ?_
      rotate_left 1
      · intro w hSw
        go_simp
        try with_reducible rfl
      show anyK _ _ _ _ _ _ _ _ (Act.put _ (some 107) _) _
      simp only [Act.put, List.setIfInBounds_toArray, List.set_cons_zero, List.set_cons_succ]
      refine anyK_take (i := 10) (v := ?_) rfl (by kernel_rfl) (by kernel_rfl) (by kernel_rfl) (N := 18) (by kernel_rfl) (by kernel_rfl) (by kernel_rfl) (fun _ _ _ h => h) (Or.inl ⟨by rfl, ?_⟩) (HSj.out _ G_pab) ?_
      rotate_left 1
      · intro w hSw
        go_simp
        try with_reducible rfl
      show anyK _ _ _ _ _ _ _ _ (Act.put _ (some 108) _) _
      simp only [Act.put, List.setIfInBounds_toArray, List.set_cons_zero, List.set_cons_succ]
      refine anyK_take (i := 11) (v := ?_) rfl (by kernel_rfl) (by kernel_rfl) (by kernel_rfl) (N := 18) (by kernel_rfl) (by kernel_rfl) (by kernel_rfl) (fun _ _ _ h => h) (Or.inl ⟨by rfl, ?_⟩) (HSj.out _ G_pab) ?_
      rotate_left 1
      · intro w hSw
        go_simp
        try with_reducible rfl
      show anyK _ _ _ _ _ _ _ _ (Act.put _ (some 109) _) _
      simp only [Act.put, List.setIfInBounds_toArray, List.set_cons_zero, List.set_cons_succ]
      refine anyK_take (i := 12) (v := ?_) rfl (by kernel_rfl) (by kernel_rfl) (by kernel_rfl) (N := 18) (by kernel_rfl) (by kernel_rfl) (by kernel_rfl) (fun _ _ _ h => h) (Or.inl ⟨by rfl, ?_⟩) (HSj.out _ G_pab) ?_
      rotate_left 1
      · intro w hSw
        go_simp
        try with_reducible rfl
      show anyK _ _ _ _ _ _ _ _ (Act.put _ (some 110) _) _
      simp only [Act.put, List.setIfInBounds_toArray, List.set_cons_zero, List.set_cons_succ]
      refine anyK_take (i := 14) (v := ?_) rfl (by kernel_rfl) (by kernel_rfl) (by kernel_rfl) (N := 18) (by kernel_rfl) (by kernel_rfl) (by kernel_rfl) (fun _ _ _ h => h) (Or.inl ⟨by rfl, ?_⟩) (HSj.out _ G_pab) ?_
      rotate_left 1
      · intro w hSw
        go_simp
        try with_reducible rfl
      show anyK _ _ _ _ _ _ _ _ (Act.put _ (some 17) _) _
      simp only [Act.put, List.setIfInBounds_toArray, List.set_cons_zero, List.set_cons_succ]
      refine anyK_take (i := 15) (v := ?_) rfl (by kernel_rfl) (by kernel_rfl) (by kernel_rfl) (N := 18) (by kernel_rfl) (by kernel_rfl) (by kernel_rfl) (fun _ _ _ h => h) (Or.inl ⟨by rfl, ?_⟩) (HSj.out _ G_pab) ?_
      rotate_left 1
      · intro w hSw
        go_simp
        try with_reducible rfl
      show anyK _ _ _ _ _ _ _ _ (Act.put _ (some 18) _) _
      simp only [Act.put, List.setIfInBounds_toArray, List.set_cons_zero, List.set_cons_succ]
      refine anyK_take (i := 16) (v := ?_) rfl (by kernel_rfl) (by kernel_rfl) (by kernel_rfl) (N := 18) (by kernel_rfl) (by kernel_rfl) (by kernel_rfl) (fun _ _ _ h => h) (Or.inl ⟨by rfl, ?_⟩) (HSj.out _ G_pab) ?_
      rotate_left 1
      · intro w hSw
        go_simp
        try with_reducible rfl
      show anyK _ _ _ _ _ _ _ _ (Act.put _ (some 19) _) _
      simp only [Act.put, List.setIfInBounds_toArray, List.set_cons_zero, List.set_cons_succ]
      refine anyK_one (i := 17) (by kernel_rfl) rfl (fun Kk hKk => ?_)
      refine stepK_storeRow rfl rfl 27 _ _ rfl B3 #[.int .i64 S0, .int .i64 Z1] rfl rfl 27 _ r3 ft_info rfl (by kernel_rfl) ?_
      refine hKk.out _ _ (fun h => Bool.noConfusion (show true = false from h)) ?_
      clear hKk Kk
      simp only [List.setIfInBounds_toArray, List.set_cons_zero, List.set_cons_succ]
      refine anyK_done (by kernel_rfl) ?_ _
      have Hfin := Lib.hid (And.intro (setRow_heap v_pab B3 _ #[.int .i64 S0, .int .i64 Z1] _ _ r3) (And.intro (ext_only' G_pab (setRow_only' v_pab B3 #[.int .i64 S0, .int .i64 Z1]) s3) (hPR.put r3 s3 #[.int .i64 S0, .int .i64 Z1])))
      go_wp2_with fail
      go_meet
      exact ⟨B3, rfl, Hfin.out.1, Hfin.out.2.1, Hfin.out.2.2⟩
  case rest =>
  obtain ⟨K10, rfl, rK10, EX10, hPR⟩ := hcut
  have f0 := (HbU8.out.ext EX10).x0; have f1 := (FtB.mk rK10).x0
  have y4 := cell_ext y4 EX10
  have HX10 := Lib.hid (HX8.out.trans EX10); have HE10 := Lib.hid (HE8.out.trans EX10); have H810 := Lib.hid (HEU8.out.trans EX10)
  have HPR := Lib.hid hPR
  clear EX10 rK10 hPR lK y0 y1 y2 y3 HPl2 HSp HX8 HE8 HbU8 HEU8
  by_cases hz : S0 = 0
  rotate_left 1
  · obtain ⟨rfl, rfl⟩ := HB8.out hz
    obtain ⟨rfl, rfl⟩ := HPR.out.2 hz
    have hcb := nt hz
    have HSm := Lib.hid (sameInts_any [] none 0 0 none 0 wc ⟨rfl, Or.inl rfl⟩ ⟨rfl, Or.inl rfl⟩ (Nat.le_refl _) (by decide))
    have HEx := Lib.hid (HE0.out.trans HE10.out)
    clear hz
    go_wp2_with fail
    refine HSm.out.mono ?_
    rintro e w11 ⟨rfl, hx11⟩
    have f0 := cell_ext f0 hx11
    have HEf := Lib.hid (HEx.out.trans hx11)
    clear hx11
    go_wp2_with fail
    go_ret
    exact ⟨rfl, HEf.out⟩
  obtain ⟨b1, g1, rfl, rfl, rfl, hP1⟩ := HA8.out hz
  obtain ⟨b2, g2, rfl, rfl, rfl, hP2⟩ := HPR.out.1 hz
  have hcb := nf' hz
  have hsp := Hkp4.out hz
  have hbb := hP1.ints rfl
  have hcc := hP2.ints rfl
  obtain ⟨nb, hnb⟩ : ∃ k : Nat, R1.bits.length = k := ⟨_, rfl⟩
  rw [hnb] at hbb hcc ⊢
  have hnb4 : nb ≤ 9223372036854775807 := by have := Hbl.out; omega
  have HSm := Lib.hid (sameInts_any R1.bits (some ⟨g1, 0, none⟩) nb nb (some ⟨g2, 0, none⟩) nb wc (hbb.ext H810.out) hcc (Nat.le_refl _) hnb4)
  have hr1 := ((hP1.st.ext H810.out).wide (Q' := fun _ => True) (fun _ _ => trivial))
  have hr2 := (hP2.st.wide (Q' := fun _ => True) (fun _ _ => trivial))
  obtain ⟨uu, huu⟩ : ∃ u : Int, ((R1.u : Nat) : Int) = u := ⟨_, rfl⟩
  rw [huu]
  have Hr1 := Lib.hid hr1; have Hr2 := Lib.hid hr2; have Hsp := Lib.hid hsp
  clear hz hbb hcc hnb hnb4 hr1 hr2 huu hsp hP1 hP2 HA8 HPR HB8 Hkp4
  go_wp2_with fail
  refine HSm.out.mono ?_
  rintro e w11 ⟨rfl, hx11⟩
  have f0 := cell_ext f0 hx11; have y4 := cell_ext y4 hx11
  have HX11 := Lib.hid (HX10.out.trans hx11); have HE11 := Lib.hid (HE0.out.trans (HE10.out.trans hx11)); have HR1 := Lib.hid (Hr1.out.ext hx11); have HR2 := Lib.hid (Hr2.out.ext hx11)
  clear hx11 HSm HX10 HE10 Hr1 Hr2 f1
  go_wp2_with (refine wpList_make_R (Qc := fun _ => True) w11 rfl _ _ rfl .i64 .i64 (TM : Int) (TM : Int) TM rfl rfl rfl rfl (by have := HTb.out; omega) ?_; intro w12 hR12 hE12 hl12)
  obtain ⟨D, hD⟩ : ∃ D, w11.heap.size = D := ⟨_, rfl⟩
  rw [hD] at hR12 hl12 ⊢
  have HD0 := Lib.hid hD
  have HG0 := Lib.hid (show RsAt (fun _ => True) w12 D TM (wnr st Qn R1.s 0) 8200 4100 ∧ Ext w11 w12 from ⟨(hR12 8200 4100).congr (fun y _ => (wnr_zero st Qn R1.s y).symm), hE12⟩)
  clear hR12 hE12 hl12 hD f0 hcb
  go_loopg [22] T1 (fun kk s22 wr => ∃ j : Nat, s22 = .int .i64 (j : Int) ∧ j ≤ T1 ∧ T1 - j = kk ∧ RsAt (fun _ => True) wr D TM (wnr st Qn R1.s j) 8200 4100 ∧ Ext w11 wr)
  case atStart => exact ⟨0, rfl, by omega, by omega, HG0.out⟩
  case round =>
    obtain ⟨j, rfl, hj, hkk, hG⟩ := hrel
    clear HG0
    have HG := Lib.hid hG; have Hkk := Lib.hid hkk
    clear hkk
    have y4 := cell_ext y4 hG.2
    clear hG
    by_cases hjm : j = T1
    · have hfin := HG.out.1.congr (s' := R2.s) (fun y _ => by rw [hjm, ← HT1.out]; exact wnr_end Hst.out Hsp.out y)
      have HTx1 := Lib.hid (fun (wx : World) (hx : Ext wr wx) => QTexts_any b2 TM TM R2.s 8200 4100 wx ((HR2.out.ext HG.out.2).ext hx) (by have := HTb.out; omega) (by decide) (by decide))
      have HTx2 := Lib.hid (fun (wx : World) (hx : Ext wr wx) => QTexts_any D TM TM R2.s 8200 4100 wx (hfin.ext hx) (by have := HTb.out; omega) (by decide) (by decide))
      have HEr := Lib.hid (HE11.out.trans HG.out.2)
      have q1 : ¬ (j : Int) < (T1 : Int) := by omega
      clear hjm hj hfin y4
      go_wp2_with fail
      refine (HTx1.out wr (Ext.refl _)).mono ?_
      rintro e wa ⟨va, rfl, howa, hxa⟩
      obtain ⟨ga, ca, rfl, hca⟩ := row_texts howa HT0.out
      have Hca := Lib.hid hca; have Hxa := Lib.hid hxa
      have lga : ga < wa.heap.size := World.block_lt_of_cell? _ ⟨ga, 0 + 0, none⟩ (hca 0 HT0.out)
      clear hca hxa howa
      go_wp2_with fail
      refine (HTx2.out wa Hxa.out).mono ?_
      rintro e wb ⟨vb, rfl, howb, hxb⟩
      obtain ⟨gb, cb, rfl, hcb⟩ := row_texts howb HT0.out
      have HSt := Lib.hid (sameTexts_row (fun t => ⟨(rtx (nmF (R2.s t))).toArray⟩) ga 0 gb 0 TM ca cb wb (fun t ht => cell_ext (Hca.out t ht) hxb) hcb (by have := HTb.out; omega))
      have HEb := Lib.hid (HEr.out.trans (Hxa.out.trans hxb))
      clear hcb hxb howb lga
      go_wp2_with fail
      refine HSt.out.mono ?_
      rintro e wc ⟨rfl, hxc⟩
      have HEf := Lib.hid (HEb.out.trans hxc)
      clear hxc
      go_wp2_with fail
      go_ret
      exact ⟨rfl, HEf.out⟩
    have hlt : j < T1 := by omega
    have Hlt := Lib.hid hlt
    have q1 : (j : Int) < (T1 : Int) := by omega
    have q0 : (0 : Int) ≤ (j : Int) := by omega
    have wk : IntKind.i64.wrap ((j : Int) + 1) = ((j + 1 : Nat) : Int) := by rw [IntKind.wrap_i64]; have := HTb.out; have := HT1b.out; omega
    obtain ⟨cl, hcl, hRl, hln⟩ := (HR1.out.ext HG.out.2).at hlt
    have hil : (Tryd.prog.info? 59).map (·.size) = some cl.length := by rw [hln]; exact R_size
    have HRl := Lib.hid hRl
    have lb1 : b1 < wr.heap.size := (HR1.out.ext HG.out.2).lt
    have lk3 : K3 < wr.heap.size := World.block_lt_of_cell? _ ⟨K3, 4, none⟩ y4
    obtain ⟨sp, hsp⟩ : ∃ y : Nat, sprN st j Qn = y := ⟨_, rfl⟩
    have HSj := Lib.hid (fun (wx : World) (hx : Ext wr wx) => HSe.out wx (HX11.out.trans (HG.out.2.trans hx)) j)
    rw [hsp] at HSj
    have hspl : sp < TM := by rw [← hsp, ← HTM.out]; exact sprN_ltS Hst.out
    have Hspl := Lib.hid hspl; have HspE := Lib.hid hsp
    have q2 : (0 : Int) ≤ (sp : Int) := by omega
    have q3 : (sp : Int) < (TM : Int) := by omega
    clear hjm hj hlt hRl hln hsp hspl
    go_upto_region 19 with fail
    have hd0 : Ext wr wr.drew := Below.drew (Ext.refl _)
    refine wp_region_K 10 (fun w' => w'.cell? ⟨K3, 4, none⟩ = some (.slice ea Qn ec) ∧ w'.rangeAt b1 (j * 17) cl) (by kernel_rfl) ?_
    show anyK _ _ _ _ _ _ 11 #[false, false, false, false, false, false, false, false, false, false, false] _ _
    have hHeld : wr.drew.cell? ⟨K3, 4, none⟩ = some (.slice ea Qn ec) ∧ wr.drew.rangeAt b1 (j * 17) cl := ⟨cell_ext y4 hd0, range_keep hcl lb1 hd0⟩
    refine anyK_take (i := 0) (v := ?_) rfl (by kernel_rfl) (by kernel_rfl) (by kernel_rfl) (N := 11) (by kernel_rfl) (by kernel_rfl) (by kernel_rfl) (fun _ _ _ h => h) (Or.inl ⟨by rfl, ?_⟩) hHeld ?_
    rotate_left 1
    · intro w hSw
      go_simp
      try with_reducible rfl
    show anyK _ _ _ _ _ _ _ _ (Act.put _ (some 139) _) _
    simp only [Act.put, List.setIfInBounds_toArray, List.set_cons_zero, List.set_cons_succ]
    refine anyK_take (i := 1) (v := ?_) rfl (by kernel_rfl) (by kernel_rfl) (by kernel_rfl) (N := 11) (by kernel_rfl) (by kernel_rfl) (by kernel_rfl) (fun _ _ _ h => h) (Or.inl ⟨by rfl, ?_⟩) hHeld ?_
    rotate_left 1
    · intro w hSw
      go_simp
      try with_reducible rfl
    show anyK _ _ _ _ _ _ _ _ (Act.put _ (some 140) _) _
    simp only [Act.put, List.setIfInBounds_toArray, List.set_cons_zero, List.set_cons_succ]
    refine anyK_take (i := 2) (v := ?_) rfl (by kernel_rfl) (by kernel_rfl) (by kernel_rfl) (N := 11) (by kernel_rfl) (by kernel_rfl) (by kernel_rfl) (fun _ _ _ h => h) (Or.inl ⟨by rfl, ?_⟩) hHeld ?_
    rotate_left 1
    · intro w hSw
      go_simp
      try with_reducible rfl
    show anyK _ _ _ _ _ _ _ _ (Act.put _ (some 141) _) _
    simp only [Act.put, List.setIfInBounds_toArray, List.set_cons_zero, List.set_cons_succ]
    refine anyK_take (i := 3) (v := ?_) rfl (by kernel_rfl) (by kernel_rfl) (by kernel_rfl) (N := 11) (by kernel_rfl) (by kernel_rfl) (by kernel_rfl) (fun _ _ _ h => h) (Or.inl ⟨by rfl, ?_⟩) hHeld ?_
    rotate_left 1
    · intro w hSw
      go_simp
      try with_reducible rfl
    show anyK _ _ _ _ _ _ _ _ (Act.put _ (some 142) _) _
    simp only [Act.put, List.setIfInBounds_toArray, List.set_cons_zero, List.set_cons_succ]
    refine anyK_take (i := 5) (v := ?_) rfl (by kernel_rfl) (by kernel_rfl) (by kernel_rfl) (N := 11) (by kernel_rfl) (by kernel_rfl) (by kernel_rfl) (fun _ _ _ h => h) (Or.inl ⟨by rfl, ?_⟩) hHeld ?_
    rotate_left 1
    · intro w hSw
      go_simp
      try with_reducible rfl
    show anyK _ _ _ _ _ _ _ _ (Act.put _ (some 144) _) _
    simp only [Act.put, List.setIfInBounds_toArray, List.set_cons_zero, List.set_cons_succ]
    refine anyK_take (i := 6) (v := ?_) rfl (by kernel_rfl) (by kernel_rfl) (by kernel_rfl) (N := 11) (by kernel_rfl) (by kernel_rfl) (by kernel_rfl) (fun _ _ _ h => h) (Or.inl ⟨by rfl, ?_⟩) hHeld ?_
    rotate_left 1
    · intro w hSw
      go_simp
      try with_reducible rfl
    show anyK _ _ _ _ _ _ _ _ (Act.put _ (some 145) _) _
    simp only [Act.put, List.setIfInBounds_toArray, List.set_cons_zero, List.set_cons_succ]
    refine anyK_take (i := 7) (v := ?_) rfl (by kernel_rfl) (by kernel_rfl) (by kernel_rfl) (N := 11) (by kernel_rfl) (by kernel_rfl) (by kernel_rfl) (fun _ _ _ h => h) (Or.inl ⟨by rfl, ?_⟩) hHeld ?_
    rotate_left 1
    · intro w hSw
      go_simp
      try with_reducible rfl
    show anyK _ _ _ _ _ _ _ _ (Act.put _ (some 146) _) _
    simp only [Act.put, List.setIfInBounds_toArray, List.set_cons_zero, List.set_cons_succ]
    refine anyK_take (i := 8) (v := .agg cl.toArray) rfl (by kernel_rfl) (by kernel_rfl) (by kernel_rfl) (N := 11) (by kernel_rfl) (by kernel_rfl) (by kernel_rfl) (fun _ _ _ h => h) (yieldsIf_load_mid (by rfl) 59 _ rfl b1 (j * 17) rfl cl _ (fun _ h => h.2) Tryd.underlying59 rfl hil) hHeld ?_
    show anyK _ _ _ _ _ _ _ _ (Act.put _ (some 147) _) _
    simp only [Act.put, List.setIfInBounds_toArray, List.set_cons_zero, List.set_cons_succ]
    clear hHeld
    refine anyK_one (i := 4) (by kernel_rfl) rfl (fun Kk hKk => ?_)
    go_simp
    (go_at_call 21; refine (HSj.out wr.drew hd0).mono ?_; rintro e w3 ⟨rfl, hx3⟩)
    have he3 := hd0.trans hx3
    go_wp2_with fail
    refine hKk.out _ _ (fun _ => ⟨cell_ext y4 he3, range_keep hcl lb1 he3⟩) ?_
    clear hKk Kk
    simp only [List.setIfInBounds_toArray, List.set_cons_zero, List.set_cons_succ]
    have hHeld : w3.cell? ⟨K3, 4, none⟩ = some (.slice ea Qn ec) ∧ w3.rangeAt b1 (j * 17) cl := ⟨cell_ext y4 he3, range_keep hcl lb1 he3⟩
    refine anyK_take (i := 9) (v := ?_) rfl (by kernel_rfl) (by kernel_rfl) (by kernel_rfl) (N := 11) (by kernel_rfl) (by kernel_rfl) (by kernel_rfl) (fun _ _ _ h => h) (Or.inl ⟨by rfl, ?_⟩) hHeld ?_
    rotate_left 1
    · intro w hSw
      go_simp
      try with_reducible rfl
    show anyK _ _ _ _ _ _ _ _ (Act.put _ (some 148) _) _
    simp only [Act.put, List.setIfInBounds_toArray, List.set_cons_zero, List.set_cons_succ]
    clear hHeld
    have hcr := HRl.out.ext he3
    have hG3 := HG.out.1.ext he3
    have ht : w3.there D (sp * 17) cl.toArray.size := by rw [hcr.size]; exact hG3.there Hspl.out
    have hinf := hcr.info; have hone := hcr.val.one
    obtain ⟨k1, k2⟩ := hG3.set Hspl.out hcr
    have HG4 := Lib.hid (show RsAt (fun _ => True) (w3.setCells D (sp * 17) cl.toArray.toList) D TM (wnr st Qn R1.s (j + 1)) 8200 4100 ∧ Ext w11 (w3.setCells D (sp * 17) cl.toArray.toList) from ⟨k1.congr (fun y _ => by rw [wnr_step Hst.out R1.s (by rw [HT1.out]; exact Hlt.out) y, HspE.out]), k2.ext (HG.out.2.trans he3) (by rw [HD0.out]; exact Nat.le_refl _)⟩)
    clear k1 k2 hG3 hcr
    refine anyK_one (i := 10) (by kernel_rfl) rfl (fun Kk hKk => ?_)
    refine stepK_storeM rfl rfl 59 _ _ rfl D (sp * 17) cl.toArray rfl rfl ht hinf hone ?_
    refine hKk.out _ _ (fun h => Bool.noConfusion (show true = false from h)) ?_
    clear hKk Kk
    simp only [List.setIfInBounds_toArray, List.set_cons_zero, List.set_cons_succ]
    refine anyK_done (by kernel_rfl) ?_ _
    clear ht hinf hone he3 hd0
    generalize w3.setCells D (sp * 17) cl.toArray.toList = w4 at *
    clear hcl hil lb1 lk3 hx3 HSj HRl y4
    go_wp2_with fail
    go_roundg (T1 - (j + 1))
    case measure => have := Hkk.out; have := Hlt.out; omega
    case rel => exact ⟨j + 1, rfl, Hlt.out, rfl, HG4.out⟩
end Go.Proofs.YtlmfhopifggeaaaDoor
