/-
  Devices copied, devices alike. The example of the document that every law of devices asks for. RouteChecks' walk. A circuit that was handed in, opened: its operations and their lists as they lie in memory. The table of kinds, as it is laid; what is asked behind a call that leaves all that lay there as it was. A device that was handed in, opened: its links as they lie in memory.
-/
import Derived.Test.YtlokfalkhgjlbaaDoorProg
import Derived.Test.YtlokfalkhgjlbaaDoorRows
import Derived.BigQuiet
import Derived.Carry
import Derived.ChangeSame
import Derived.Deep.AppendLies
import Derived.Deep.Cut
import Derived.Deep.CutRange
import Derived.Deep.LoopGhost
import Derived.Deep.QuietTactic
import Derived.Deep.RegionHeld3
import Derived.Deep.Slices
import Derived.FnData
import Derived.Ground.Names2Prog
import Derived.Laws.Bits64b
import Derived.Laws.CopyOwn
import Derived.Laws.ResultCell
import Derived.Lib.AppendZeros
import Derived.Lib.BitFns
import Derived.Lib.Hide
import Derived.Lib.ItoaMem
import Derived.Lib.ItoaNum
import Derived.Lib.Strings
import Derived.Lib.TrailingZeros
import Derived.Maps.AppendAt
import Derived.OpenShut
import Derived.OrdersHeld
import Derived.OrdersIn
import Derived.OwnWalk
import Derived.ProofKit
import Derived.RangeFuncCalls
import Derived.RangeFuncFrom
import Derived.RegionTactic
import Derived.Shelf.Slices.Clone
import Derived.Shelf.Slices.Turned
import Derived.Shelf.Spec.TrailingZeros
import Derived.SizedLaws
import Derived.Stop.LaidErr
import Derived.WalkKit
import Derived.WalkLawsBesides
import Derived.WalkSpells
import Derived.Test.YtlokfalkhgjlbaaDoorS00Sw
import Derived.Test.YtlokfalkhgjlbaaDoorS01Cj
import Derived.Test.YtlokfalkhgjlbaaDoorShelf
import Derived.Test.YtlokfalkhgjlbaaDoorS03Md
import Derived.Test.YtlokfalkhgjlbaaDoorS04Mg
import Derived.Test.YtlokfalkhgjlbaaDoorS05Yg
import Derived.Test.YtlokfalkhgjlbaaDoorS06Mr
import Derived.Test.YtlokfalkhgjlbaaDoorS07Mt
namespace Go.Proofs.YtlokfalkhgjlbaaDoor
open Go.RowKit

/-- Links as cells. -/
def lC (ls : List Lnk) : List Value := (List.range (ls.length * 2)).map fun j => if j % 2 = 0 then Value.int .i64 (ls.getD (j / 2) (0, 0)).1 else Value.int .i64 (ls.getD (j / 2) (0, 0)).2
theorem lC_len (ls : List Lnk) : (lC ls).length = ls.length * 2 := by unfold lC; simp
theorem lC_at (ls : List Lnk) (j : Nat) (h : j < ls.length * 2) : (lC ls)[j]? = some (if j % 2 = 0 then Value.int .i64 (ls.getD (j / 2) (0, 0)).1 else Value.int .i64 (ls.getD (j / 2) (0, 0)).2) := by
  unfold lC
  rw [List.getElem?_map, List.getElem?_range h]; rfl
theorem lC_one (ls : List Lnk) : ∀ u ∈ lC ls, u.oneCell' = true := by
  intro u hu
  unfold lC at hu
  obtain ⟨j, _, rfl⟩ := List.mem_map.1 hu
  split <;> rfl
theorem l2_info : (Tryd.prog.info? 76).map (fun i => (i.zero, i.size, i.bytes)) = some (some (.agg #[.int .i64 0, .int .i64 0]), 2, 16) := by kernel_rfl
theorem lnk_cells {w : World} {b o n : Nat} {ls : List Lnk} (hl : ls.length = n) (hc : ∀ t, t < n → w.cell? ⟨b, o + t * 2, none⟩ = some (.int .i64 (ls.getD t (0, 0)).1) ∧ w.cell? ⟨b, o + t * 2 + 1, none⟩ = some (.int .i64 (ls.getD t (0, 0)).2)) (j : Nat) (u : Value) (hu : (lC ls)[j]? = some u) : w.cell? ((⟨b, o, none⟩ : Addr).add j) = some u := by
  have hadd : (⟨b, o, none⟩ : Addr).add j = ⟨b, o + j, none⟩ := by unfold Addr.add; split <;> simp_all
  have hj : j < ls.length * 2 := by rw [← lC_len]; exact (List.getElem?_eq_some_iff.1 hu).1
  rw [lC_at ls j hj] at hu
  injection hu with hu
  have h2 := hc (j / 2) (by omega)
  rw [hadd, ← hu]
  by_cases e : j % 2 = 0
  · rw [if_pos e, show o + j = o + j / 2 * 2 by omega]; exact h2.1
  · rw [if_neg e, show o + j = o + j / 2 * 2 + 1 by omega]; exact h2.2
theorem lnk_of_own {w : World} {base n : Nat} {v : Value} {ls : List Lnk} (hl : ls.length = n) (h : w.ownsRow base 76 2 v n (lC ls)) : ∃ (a : Option Addr) (c : Nat), v = .slice a n c ∧ n ≤ c ∧ c ≤ maxLen ∧ LnkAt w a n ls := by
  rcases h.2 with ⟨rfl, rfl⟩ | ⟨g, cap, cur, rfl, _, hg, hnc, hcm, _, htk⟩
  · exact ⟨none, 0, rfl, Nat.le_refl _, Nat.zero_le _, ⟨hl, Or.inl rfl⟩⟩
  · refine ⟨some ⟨g, 0, none⟩, cap, rfl, hnc, hcm, ⟨hl, Or.inr ⟨g, 0, rfl, (Array.getElem?_eq_some_iff.1 hg).1, fun t ht => ?_⟩⟩⟩
    have key : ∀ j, j < n * 2 → w.cell? ⟨g, j, none⟩ = (lC ls)[j]? := fun j hj => by
      rw [cell_of_row w g j cur _ (0, 0) hg, ← Array.getElem?_toList, ← htk, List.getElem?_take, if_pos hj]
    have k1 := key (0 + t * 2) (by omega)
    have k2 := key (0 + t * 2 + 1) (by omega)
    rw [lC_at ls _ (by omega), if_pos (by omega), show (0 + t * 2) / 2 = t by omega] at k1
    rw [lC_at ls _ (by omega), if_neg (by omega), show (0 + t * 2 + 1) / 2 = t by omega] at k2
    exact ⟨k1, k2⟩
theorem dv_info : (Tryd.prog.info? 24).map (·.size) = some 2 := by kernel_rfl

set_option maxRecDepth 100000 in
set_option maxHeartbeats 4000000 in
theorem copyDevice_any (N : Int) (ls : List Lnk) (ao : Option Addr) (n cp : Nat) (w : World) (h : LnkAt w ao n ls) (hb : n * 16 ≤ 140737488355328) (hnil : ao = none → cp = 0) :
    Calls Tryd.prog 7 #[.agg #[.int .i64 N, .slice ao n cp]] w fun e w' => ∃ a' c', e = .returned (.agg #[.int .i64 N, .slice a' n c']) ∧ (LnkAt w' a' n ls ∧ n ≤ c' ∧ c' ≤ 9223372036854775807) ∧ Ext w w' := by
  obtain ⟨i0, hi, hz0, hz1, hz2⟩ := info_parts l2_info
  obtain ⟨H, hH⟩ : ∃ H, w.heap.size = H := ⟨_, rfl⟩
  obtain ⟨W0, hW0⟩ : ∃ W0, (w.alloc (.cells #[.int .i64 N, .slice ao n cp] 24)).alloc (.cells #[.int .i64 0, .slice none 0 0] 24) = W0 := ⟨_, rfl⟩
  have E0 : Ext w W0 := by rw [← hW0]; exact (ext_al w _).trans (ext_al _ _)
  have bD : DvB W0 H N ao n cp := by rw [← hW0, ← hH]; exact DvB.ext ⟨heap_alloc_new w _⟩ (ext_al _ _)
  have bR : DvB W0 (H + 1) 0 none 0 0 := ⟨by
    have := heap_alloc_new (w.alloc (.cells #[.int .i64 N, .slice ao n cp] 24)) (.cells #[.int .i64 0, .slice none 0 0] 24)
    rw [← hW0, ← hH]
    simpa using this⟩
  have hs0 : W0.heap.size = H + 2 := by rw [← hW0, World.size_alloc, World.size_alloc, hH]
  have hl := h.1
  have hL := h.ext E0
  have HE0 := Lib.hid E0; have HW0 := Lib.hid hW0; have HH := Lib.hid hH; have HwH := Lib.hid (show w.heap.size ≤ H + 1 by omega)
  have key : ∃ v' w1, (Builtin.append_ #[22, 22] 22 #[.slice none 0 0, .slice ao n cp]).run Tryd.prog W0.drew = .ok v' w1 ∧ w1.ownsRow W0.drew.heap.size 76 2 v' n (lC ls) ∧ Ext W0.drew w1 := by
    have hO0 : W0.drew.ownsRow W0.drew.heap.size 76 2 (.slice none 0 0) 0 [] := ⟨rfl, Or.inl ⟨rfl, rfl⟩⟩
    cases ao with
    | none =>
      have hn0 : n = 0 := by
        rcases hL.2 with h0 | ⟨b, o, e, _⟩
        · exact h0
        · cases e
      subst hn0
      have hc0 := hnil rfl
      subst hc0
      have hls : ls = [] := List.length_eq_zero_iff.1 hl
      subst hls
      exact ⟨_, W0.drew, run_append_owned_none W0.drew W0.drew.heap.size _ _ 76 i0 2 Tryd.underlying22 hi (.slice none 0 0) 0 [] hO0, hO0, Ext.refl _⟩
    | some ad =>
      have hcell : ∀ j u, (lC ls)[j]? = some u → W0.drew.cell? (ad.add j) = some u := fun j u hu => by
        by_cases hn0 : n = 0
        · have := (List.getElem?_eq_some_iff.1 hu).1
          rw [lC_len, hl, hn0] at this
          omega
        · obtain ⟨b, o, e, _, hc⟩ := hL.at (by omega)
          cases e
          exact lnk_cells hl hc j u hu
      obtain ⟨v', w1, e1, e2, e3, _, _⟩ := run_append_own_at (P := Tryd.prog) W0.drew W0.drew.heap.size 22 22 76 i0 _ 2 16 Tryd.underlying22 hi hz0 hz1 hz2 rfl (by decide) (.slice none 0 0) 0 [] hO0 ad n cp (lC ls) (by rw [lC_len, hl]) hcell (lC_one ls) (by unfold maxLen; omega) (by omega) (Nat.le_refl _)
      rw [Nat.zero_add, List.nil_append] at e2
      exact ⟨v', w1, e1, e2, (Below.refl _ _).grown e3 (Nat.le_refl _) (fun k h => by cases h)⟩
  obtain ⟨v1, w1, r1, ho1, E1⟩ := key
  obtain ⟨a1, c1, rfl, hnc, hcm, hLk⟩ := lnk_of_own hl ho1
  have Ed : Ext W0 W0.drew := Below.drew (Ext.refl _)
  have E01 := Ed.trans E1
  have rR := (bR.ext E01).row
  have t0 := bD.x0; have t1 := bD.x1
  have Hr1 := Lib.hid r1; have HLk := Lib.hid hLk; have Hnc := Lib.hid hnc; have Hcm := Lib.hid hcm
  have on1 := setRow_only' w1 (H + 1) #[.int .i64 N, .slice a1 n c1]
  have Hf1 := Lib.hid (setRow_heap w1 (H + 1) _ #[.int .i64 N, .slice a1 n c1] _ _ rR)
  have HEf := Lib.hid (show Ext w (w1.setRow (H + 1) #[.int .i64 N, .slice a1 n c1]) from ext_only' (HE0.out.trans E01) on1 HwH.out)
  have HLf := Lib.hid (show LnkAt (w1.setRow (H + 1) #[.int .i64 N, .slice a1 n c1]) a1 n ls from by
    obtain ⟨a9, c9, e9, _, _, h9⟩ := lnk_of_own hl (own_keep ho1 fun g _ hb9 _ => on1.block g (by have : W0.drew.heap.size = H + 2 := hs0; omega))
    injection e9 with ea _ _
    rw [← ea] at h9
    exact h9)
  have HrR := Lib.hid rR; have HE1 := Lib.hid E1; have HE01 := Lib.hid E01
  clear h hb hnil E0 bD bR hs0 hl hL r1 ho1 hLk hnc hcm on1 hW0 hH E1 E01 rR
  go_enter Tryd.func7, Tryd.ntmps7
  go_upto_region 1 with fail
  rw [HW0.out, HH.out]
  refine wp_region_K 6 (fun w' => w'.cell? ⟨H, 0, none⟩ = some (.int .i64 N) ∧ w'.cell? ⟨H, 1, none⟩ = some (.slice ao n cp)) (by kernel_rfl) ?_
  show anyK _ _ _ _ _ _ 7 #[false, false, false, false, false, false, false] _ _
  have hHeld : W0.drew.cell? ⟨H, 0, none⟩ = some (.int .i64 N) ∧ W0.drew.cell? ⟨H, 1, none⟩ = some (.slice ao n cp) := ⟨cell_ext t0 Ed, cell_ext t1 Ed⟩
  refine anyK_take (i := 0) (v := ?_) rfl (by kernel_rfl) (by kernel_rfl) (by kernel_rfl) (N := 7) (by kernel_rfl) (by kernel_rfl) (by kernel_rfl) (fun _ _ _ h => h) (Or.inl ⟨by rfl, ?_⟩) hHeld ?_
  rotate_left 1
  · intro w hSw
    go_simp
    try with_reducible rfl
  show anyK _ _ _ _ _ _ _ _ (Act.put _ (some 3) _) _
  simp only [Act.put, List.setIfInBounds_toArray, List.set_cons_zero, List.set_cons_succ]
  refine anyK_take (i := 1) (v := ?_) rfl (by kernel_rfl) (by kernel_rfl) (by kernel_rfl) (N := 7) (by kernel_rfl) (by kernel_rfl) (by kernel_rfl) (fun _ _ _ h => h) (Or.inl ⟨by rfl, ?_⟩) hHeld ?_
  rotate_left 1
  · intro w hSw
    go_simp
    try with_reducible rfl
  show anyK _ _ _ _ _ _ _ _ (Act.put _ (some 4) _) _
  simp only [Act.put, List.setIfInBounds_toArray, List.set_cons_zero, List.set_cons_succ]
  refine anyK_take (i := 2) (v := ?_) rfl (by kernel_rfl) (by kernel_rfl) (by kernel_rfl) (N := 7) (by kernel_rfl) (by kernel_rfl) (by kernel_rfl) (fun _ _ _ h => h) (Or.inl ⟨by rfl, ?_⟩) hHeld ?_
  rotate_left 1
  · intro w hSw
    go_simp
    try with_reducible rfl
  show anyK _ _ _ _ _ _ _ _ (Act.put _ (some 5) _) _
  simp only [Act.put, List.setIfInBounds_toArray, List.set_cons_zero, List.set_cons_succ]
  refine anyK_take (i := 3) (v := ?_) rfl (by kernel_rfl) (by kernel_rfl) (by kernel_rfl) (N := 7) (by kernel_rfl) (by kernel_rfl) (by kernel_rfl) (fun _ _ _ h => h) (Or.inl ⟨by rfl, ?_⟩) hHeld ?_
  rotate_left 1
  · intro w hSw
    go_simp
    try with_reducible rfl
  show anyK _ _ _ _ _ _ _ _ (Act.put _ (some 6) _) _
  simp only [Act.put, List.setIfInBounds_toArray, List.set_cons_zero, List.set_cons_succ]
  clear hHeld
  refine anyK_one (i := 4) (by kernel_rfl) rfl (fun Kk hKk => ?_)
  refine stepK_append rfl _ _ 22 rfl (.slice none 0 0) (.slice ao n cp) _ rfl rfl Hr1.out ?_
  refine hKk.out _ _ (fun _ => ⟨cell_ext t0 HE01.out, cell_ext t1 HE01.out⟩) ?_
  clear hKk Kk
  show anyK _ _ _ _ _ _ _ _ (Act.put _ (some 7) _) _
  simp only [Act.put, List.setIfInBounds_toArray, List.set_cons_zero, List.set_cons_succ]
  have hHeld : w1.cell? ⟨H, 0, none⟩ = some (.int .i64 N) ∧ w1.cell? ⟨H, 1, none⟩ = some (.slice ao n cp) := ⟨cell_ext t0 HE01.out, cell_ext t1 HE01.out⟩
  refine anyK_take (i := 5) (v := ?_) rfl (by kernel_rfl) (by kernel_rfl) (by kernel_rfl) (N := 7) (by kernel_rfl) (by kernel_rfl) (by kernel_rfl) (fun _ _ _ h => h) (Or.inl ⟨by rfl, ?_⟩) hHeld ?_
  rotate_left 1
  · intro w hSw
    go_simp
    try with_reducible rfl
  show anyK _ _ _ _ _ _ _ _ (Act.put _ (some 8) _) _
  simp only [Act.put, List.setIfInBounds_toArray, List.set_cons_zero, List.set_cons_succ]
  clear hHeld
  refine anyK_one (i := 6) (by kernel_rfl) rfl (fun Kk hKk => ?_)
  refine stepK_storeRow rfl rfl 24 _ _ rfl (H + 1) #[.int .i64 N, .slice a1 n c1] rfl rfl 24 _ HrR.out dv_info rfl (by kernel_rfl) ?_
  refine hKk.out _ _ (fun h => Bool.noConfusion (show true = false from h)) ?_
  clear hKk Kk
  simp only [List.setIfInBounds_toArray, List.set_cons_zero, List.set_cons_succ]
  refine anyK_done (by kernel_rfl) ?_ _
  clear t0 t1 Ed HE1 HE01 HrR HLk
  generalize w1.setRow (H + 1) #[.int .i64 N, .slice a1 n c1] = WF at *
  go_wp2_with fail
  refine bodyPost_ret (v := .agg #[.int .i64 N, .slice a1 n c1]) ?_ rfl ⟨a1, c1, rfl, ⟨HLf.out, Hnc.out, by have := Hcm.out; unfold maxLen at this; omega⟩, HEf.out⟩
  exact results_cell_row rfl _ _ (H + 1) _ _ _ _ rfl Hf1.out Tryd.underlying24 rfl dv_info

/-- Two links that are alike. -/
theorem eq_arr (w : World) (x y : Int) : (Op.equalIn 10000 76 (.agg #[.int .i64 x, .int .i64 y]) (.agg #[.int .i64 x, .int .i64 y])).run Tryd.prog w = .ok true w := by
  have hu := Tryd.underlying76
  have hi := Tryd.underlying3
  obtain ⟨i0, h0, h1, h2, h3⟩ := info_parts i_info
  have e : ∀ a : Int, (Op.equalIn 9999 3 (.int .i64 a) (.int .i64 a)).run Tryd.prog w = .ok true w := fun a => by
    rw [run_equalIn_int w 9998 3 .i64 .i64 a a hi]; simp
  show (Op.equalIn (9999 + 1) _ _ _).run _ _ = _
  rw [Op.equalIn]
  simp [Sem.run_bind, run_underlying hu, sizeOf, typeInfo, h0, h2, List.range', part, isAgg, run_underlying hi, e]

set_option maxRecDepth 100000 in
set_option maxHeartbeats 4000000 in
theorem sameDevice_any (N : Int) (ls : List Lnk) (ao : Option Addr) (n cp : Nat) (bo : Option Addr) (cq : Nat) (w : World) (h1 : LnkAt w ao n ls) (h2 : LnkAt w bo n ls) (hn : n ≤ 9223372036854775806) :
    Calls Tryd.prog 11 #[.agg #[.int .i64 N, .slice ao n cp], .agg #[.int .i64 N, .slice bo n cq]] w fun e w' => e = .returned (.bool true) ∧ Ext w w' := by
  obtain ⟨H, hH⟩ : ∃ H, w.heap.size = H := ⟨_, rfl⟩
  obtain ⟨W0, hW0⟩ : ∃ W0, (w.alloc (.cells #[.int .i64 N, .slice ao n cp] 24)).alloc (.cells #[.int .i64 N, .slice bo n cq] 24) = W0 := ⟨_, rfl⟩
  have E0 : Ext w W0 := by rw [← hW0]; exact (ext_al w _).trans (ext_al _ _)
  have bD : DvB W0 H N ao n cp := by rw [← hW0, ← hH]; exact DvB.ext ⟨heap_alloc_new w _⟩ (ext_al _ _)
  have bR : DvB W0 (H + 1) N bo n cq := ⟨by
    have := heap_alloc_new (w.alloc (.cells #[.int .i64 N, .slice ao n cp] 24)) (.cells #[.int .i64 N, .slice bo n cq] 24)
    rw [← hW0, ← hH]
    simpa using this⟩
  have HE0 := Lib.hid E0; have HW0 := Lib.hid hW0; have HH := Lib.hid hH; have H1 := Lib.hid (h1.ext E0); have H2 := Lib.hid (h2.ext E0); have HD := Lib.hid bD; have HR := Lib.hid bR; have Hn := Lib.hid hn
  have t0 := bD.x0; have t1 := bD.x1; have u0 := bR.x0; have u1 := bR.x1
  clear h1 h2 hn E0 bD bR hW0 hH
  go_enter Tryd.func11, Tryd.ntmps11
  go_upto_region 1 with fail
  rw [HW0.out, HH.out]
  clear HW0 HH
  go_wp2_with fail
  clear t0 t1 u0 u1
  go_loopg [5] n (fun kk s5 wr => ∃ i : Nat, s5 = .int .i64 (i : Int) ∧ i ≤ n ∧ n - i = kk ∧ Ext W0 wr)
  case atStart => exact ⟨0, rfl, Nat.zero_le _, rfl, Ext.refl _⟩
  case round =>
    obtain ⟨i, rfl, hi, hk, hE⟩ := hrel
    have HE := Lib.hid hE; have Hk := Lib.hid hk
    have bD := HD.out.ext hE; have bR := HR.out.ext hE
    have t1 := bD.x1; have u1 := bR.x1
    by_cases hin : i = n
    · subst hin
      have q1 : ¬ (i : Int) < (i : Int) := by omega
      have HEz := Lib.hid (HE0.out.trans hE)
      clear hi hk hE bD bR
      go_wp2_with fail
      go_ret
      exact ⟨rfl, HEz.out⟩
    have hlt : i < n := by omega
    have Hlt := Lib.hid hlt
    have q1 : (i : Int) < (n : Int) := by omega
    have q0 : (0 : Int) ≤ (i : Int) := by omega
    have wk : IntKind.i64.wrap ((i : Int) + 1) = ((i + 1 : Nat) : Int) := by rw [IntKind.wrap_i64]; have := Hn.out; omega
    obtain ⟨b, o, rfl, _, hc1⟩ := (H1.out.ext hE).at (by omega)
    obtain ⟨b', o', rfl, _, hc2⟩ := (H2.out.ext hE).at (by omega)
    obtain ⟨e0, e1⟩ := hc1 i hlt
    obtain ⟨e0', e1'⟩ := hc2 i hlt
    obtain ⟨⟨x, y⟩, hkk⟩ : ∃ k, ls.getD i (0, 0) = k := ⟨_, rfl⟩
    rw [hkk] at e0 e1 e0' e1'
    simp only at e0 e1 e0' e1'
    clear hi hk hE bD bR hin hlt hc1 hc2 hkk
    have heq := eq_arr wr.drew x y
    go_upto_region 6 with fail
    go_region
    go_wp2_with fail
    go_roundg (n - (i + 1))
    case measure => have := Hk.out; have := Hlt.out; omega
    case rel => exact ⟨i + 1, rfl, Hlt.out, rfl, Below.drew HE.out⟩
end Go.Proofs.YtlokfalkhgjlbaaDoor
namespace Go.Proofs.YtlokfalkhgjlbaaDoor
open Go.RowKit

def bgCr : Gci := ⟨3, 0, [xc 2 0]⟩
def bgLn : List Lnk := [(0, 1), (1, 2)]
theorem bg_fit : fitF bgCr 3 bgLn = (0, 0) := by decide +kernel
theorem Ftd.pos {W : List Nat} {M Q : Nat} {ops out : List Gop} {st : List Int} (h : Ftd W M Q ops out st) (hn : ops ≠ []) : 1 ≤ out.length := by
  cases h with
  | nil => exact absurd rfl hn
  | snoc g _ _ _ _ _ _ => rw [List.length_append, List.length_append]; simp only [List.length_cons, List.length_nil]; omega
theorem rt_row {w : World} {g : Nat} {a b c d e : Value} {T : TypeId} (h : w.heap[g]? = some (.cells #[a, b, c, d, e] T (0, 0))) : w.cell? ⟨g, 0, none⟩ = some a ∧ w.cell? ⟨g, 1, none⟩ = some b ∧ w.cell? ⟨g, 2, none⟩ = some c ∧ w.cell? ⟨g, 3, none⟩ = some d ∧ w.cell? ⟨g, 4, none⟩ = some e :=
  ⟨by rw [cell_of_row w g 0 _ _ (0, 0) h]; rfl, by rw [cell_of_row w g 1 _ _ (0, 0) h]; rfl, by rw [cell_of_row w g 2 _ _ (0, 0) h]; rfl, by rw [cell_of_row w g 3 _ _ (0, 0) h]; rfl, by rw [cell_of_row w g 4 _ _ (0, 0) h]; rfl⟩

set_option maxRecDepth 100000 in
set_option maxHeartbeats 4000000 in
theorem routeBegun_any (w : World) (hS : Shp w) (hT : BruM w) : Calls Tryd.prog 9 #[] w fun e w' => e = .returned (.bool true) ∧ Ext w w' := by
  obtain ⟨H, hH⟩ : ∃ H, w.heap.size = H := ⟨_, rfl⟩
  obtain ⟨A1, hA1⟩ : ∃ A, w.alloc (.cells #[.int .i64 0, .int .i64 1, .int .i64 1, .int .i64 2] 76) = A := ⟨_, rfl⟩
  have s1 : A1.heap.size = H + 1 := by rw [← hA1, World.size_alloc, hH]
  have E1 : Ext w A1 := by rw [← hA1]; exact ext_al _ _
  have R1 : A1.heap[H]? = some (.cells #[.int .i64 0, .int .i64 1, .int .i64 1, .int .i64 2] 76 (0, 0)) := by rw [← hA1, ← hH]; exact heap_alloc_new _ _
  obtain ⟨A2, hA2⟩ : ∃ A, A1.alloc (.cells #[.int .i64 3, .slice (some ⟨H, 0, none⟩) 2 2] 24) = A := ⟨_, rfl⟩
  have s2 : A2.heap.size = H + 2 := by rw [← hA2, World.size_alloc, s1]
  have E2 : Ext A1 A2 := by rw [← hA2]; exact ext_al _ _
  have R2 : DvB A2 (H + 1) 3 (some ⟨H, 0, none⟩) 2 2 := ⟨by rw [← hA2, ← s1]; exact heap_alloc_new _ _⟩
  obtain ⟨A3, hA3⟩ : ∃ A, A2.alloc (.cells #[.int .i64 0] 3) = A := ⟨_, rfl⟩
  have s3 : A3.heap.size = H + 3 := by rw [← hA3, World.size_alloc, s2]
  have E3 : Ext A2 A3 := by rw [← hA3]; exact ext_al _ _
  have R3 : A3.heap[H + 2]? = some (.cells #[.int .i64 0] 3 (0, 0)) := by rw [← hA3, ← s2]; exact heap_alloc_new _ _
  obtain ⟨A4, hA4⟩ : ∃ A, A3.alloc (.cells #[.int .i64 2, .int .i64 0, .slice (some ⟨H + 2, 0, none⟩) 1 1, .int .i64 2, .int .i64 0, .slice none 0 0] 46) = A := ⟨_, rfl⟩
  have E4 : Ext A3 A4 := by rw [← hA4]; exact ext_al _ _
  have R4 : A4.heap[H + 3]? = some (.cells #[.int .i64 2, .int .i64 0, .slice (some ⟨H + 2, 0, none⟩) 1 1, .int .i64 2, .int .i64 0, .slice none 0 0] 46 (0, 0)) := by rw [← hA4, ← s3]; exact heap_alloc_new _ _
  have hE4 := (E1.trans E2).trans (E3.trans E4)
  have hL : LnkAt A4 (some ⟨H, 0, none⟩) 2 bgLn := by
    have r := ((E2.trans (E3.trans E4)).block _ (Array.getElem?_eq_some_iff.1 R1).1).trans R1
    refine ⟨rfl, Or.inr ⟨H, 0, rfl, (Array.getElem?_eq_some_iff.1 r).1, fun t ht => ?_⟩⟩
    have : t = 0 ∨ t = 1 := by omega
    rcases this with rfl | rfl
    · exact ⟨by rw [cell_of_row A4 H _ _ _ (0, 0) r]; rfl, by rw [cell_of_row A4 H _ _ _ (0, 0) r]; rfl⟩
    · exact ⟨by rw [cell_of_row A4 H _ _ _ (0, 0) r]; rfl, by rw [cell_of_row A4 H _ _ _ (0, 0) r]; rfl⟩
  have hO : OpsAt A4 (some ⟨H + 3, 0, none⟩) 1 bgCr.ops := by
    have r3 := (E4.block _ (Array.getElem?_eq_some_iff.1 R3).1).trans R3
    refine ⟨rfl, Or.inr ⟨H + 3, 0, rfl, (Array.getElem?_eq_some_iff.1 R4).1, fun t g hg => ?_⟩⟩
    have ht : t = 0 := by
      have := (List.getElem?_eq_some_iff.1 hg).1
      have h1 : bgCr.ops.length = 1 := rfl
      omega
    subst ht
    have hg' : g = xc 2 0 := by
      have : bgCr.ops[0]? = some (xc 2 0) := rfl
      rw [this] at hg
      exact (Option.some.inj hg).symm
    subst hg'
    refine ⟨some ⟨H + 2, 0, none⟩, 1, 1, none, 0, 0, by rw [cell_of_row A4 (H + 3) _ _ _ (0, 0) R4]; rfl, by rw [cell_of_row A4 (H + 3) _ _ _ (0, 0) R4]; rfl, by rw [cell_of_row A4 (H + 3) _ _ _ (0, 0) R4]; rfl, by rw [cell_of_row A4 (H + 3) _ _ _ (0, 0) R4]; rfl, by rw [cell_of_row A4 (H + 3) _ _ _ (0, 0) R4]; rfl, by rw [cell_of_row A4 (H + 3) _ _ _ (0, 0) R4]; rfl, ?_⟩
    refine ⟨⟨rfl, Or.inr ⟨H + 2, 0, rfl, (Array.getElem?_eq_some_iff.1 r3).1, fun t ht => ?_⟩⟩, Nat.le_refl _, by decide, ⟨rfl, Or.inl rfl⟩, Nat.le_refl _, by decide⟩
    have : t = 0 := by omega
    subst this
    rw [cell_of_row A4 (H + 2) _ _ _ (0, 0) r3]; rfl
  have HFit := Lib.hid (Fit_any bgCr (some ⟨H + 3, 0, none⟩) 1 1 3 bgLn (some ⟨H, 0, none⟩) 2 2 A4 hO (by omega) (by decide) hL (by decide) (hS.ext hE4) (bruM_ext hT hE4))
  have R24 := R2.ext (E3.trans E4)
  have v0 := R24.x0; have v1 := R24.x1
  have HA1 := Lib.hid hA1; have HA2 := Lib.hid hA2; have HA3 := Lib.hid hA3; have HA4 := Lib.hid hA4; have HH := Lib.hid hH; have Hs1 := Lib.hid s1; have Hs2 := Lib.hid s2; have Hs3 := Lib.hid s3; have HE4 := Lib.hid hE4
  have hq : (A1.heap.size = H + 1) := s1
  clear hS hT hA1 hA2 hA3 hA4 hH E1 E2 E3 E4 R1 R2 R3 R4 hE4 hL hO R24 s1 s2 s3 hq
  go_enter Tryd.func9, Tryd.ntmps9
  go_upto_region 2 with fail
  rw [HA1.out, HH.out, HA2.out]
  have s2 := Hs2.out
  rw [← HA4.out, ← HA3.out] at v0 v1
  go_wp2_with fail
  rw [HA3.out, HA4.out]
  clear v0 v1 s2
  refine HFit.out.mono ?_
  rintro e w1 ⟨rq, rb, oa, on, oc, sa, sn, sc, ea, en, ec, out, s0, st, rfl, ⟨hO1, hO2, hO3⟩, ⟨hI1, _, _⟩, _, hR, hE1⟩
  obtain ⟨rfl, rfl, rfl, hFt⟩ := hR.2 (by rw [bg_fit])
  have hl1 : out.length = on := hO1.1
  have hl2 : (plN bgCr.qubits.toNat).length = sn := hI1.1
  have hsn : sn = 3 := by rw [← hl2, plN_len]; rfl
  have hp := hFt.pos (by unfold bgCr; simp)
  have hf := hFt.few (fun g hg => by
    have : g = xc 2 0 := by unfold bgCr at hg; simpa using hg
    rw [this]; decide)
  have hk : rckN (((3 : Int).toNat : Nat) : Int) bgCr.ops = 4 := by decide +kernel
  rw [hk] at hf
  subst hsn
  rw [bg_fit]
  simp only
  have q1 : (1 : Int) ≤ (on : Int) := by omega
  have q2 : (on : Int) ≤ 4 := by omega
  have rR := heap_alloc_new w1 (.cells #[.int .i64 3, .int .i64 bgCr.bits, .slice oa on oc, .slice sa 3 sc, .slice ea en ec] 38)
  have HEf := Lib.hid ((HE4.out.trans hE1).trans ((ext_al w1 (.cells #[.int .i64 3, .int .i64 bgCr.bits, .slice oa on oc, .slice sa 3 sc, .slice ea en ec] 38)).trans (ext_al _ (.cells #[.int .i64 0, .int .i64 0] 27))))
  have rR2 := ((ext_al (w1.alloc (.cells #[.int .i64 3, .int .i64 bgCr.bits, .slice oa on oc, .slice sa 3 sc, .slice ea en ec] 38)) (.cells #[.int .i64 0, .int .i64 0] 27)).block _ (Array.getElem?_eq_some_iff.1 rR).1).trans rR
  have rF := heap_alloc_new (w1.alloc (.cells #[.int .i64 3, .int .i64 bgCr.bits, .slice oa on oc, .slice sa 3 sc, .slice ea en ec] 38)) (.cells #[.int .i64 0, .int .i64 0] 27)
  rw [World.size_alloc] at rF
  obtain ⟨x0, x1, x2, x3, x4⟩ := rt_row rR2
  have bF : FtB _ _ 0 0 := ⟨rF⟩
  have y0 := bF.x0; have y1 := bF.x1
  clear rR rR2 rF bF hl1 hl2 hp hf hk hFt hR hE1 hO1 hI1 HFit
  go_wp2_with fail
  go_ret
  exact ⟨rfl, HEf.out⟩
end Go.Proofs.YtlokfalkhgjlbaaDoor
namespace Go.Proofs.YtlokfalkhgjlbaaDoor
open Go.RowKit

set_option maxRecDepth 100000 in
set_option maxHeartbeats 8000000 in
theorem rchecks_walk (N : Int) (ls : List Lnk) (ao : Option Addr) (n cp : Nat) (w : World) (h : LnkAt w ao n ls) (hnc : n ≤ cp) (hcp : cp ≤ 9223372036854775807) (hb : n * 16 ≤ 140737488355328) (hnil : ao = none → cp = 0) (hS : Shp w) (hT : BruM w) :
    Calls Tryd.prog 3 #[.agg #[.int .i64 N, .slice ao n cp]] w fun e w' => e = .returned (.bool true) ∧ Ext w w' := by
  obtain ⟨H, hH⟩ : ∃ H, w.heap.size = H := ⟨_, rfl⟩
  obtain ⟨W0, hW0⟩ : ∃ W0, w.alloc (.cells #[.int .i64 N, .slice ao n cp] 24) = W0 := ⟨_, rfl⟩
  have E0 : Ext w W0 := by rw [← hW0]; exact ext_al w _
  have bD : DvB W0 H N ao n cp := by rw [← hW0, ← hH]; exact ⟨heap_alloc_new w _⟩
  have hn6 : n ≤ 9223372036854775806 := by omega
  have HC := Lib.hid (copyDevice_any N ls ao n cp W0 (h.ext E0) hb hnil)
  have HE0 := Lib.hid E0; have HD := Lib.hid bD; have HW0 := Lib.hid hW0; have HH := Lib.hid hH; have Hh := Lib.hid (h.ext E0); have HS := Lib.hid (hS.ext E0); have HT := Lib.hid (bruM_ext hT E0); have Hn6 := Lib.hid hn6; have Hnc := Lib.hid hnc; have Hcp := Lib.hid hcp
  have v0 := bD.x0; have v1 := bD.x1
  clear h hnc hcp hb hnil hS hT E0 bD hW0 hH hn6
  go_enter Tryd.func3, Tryd.ntmps3
  go_upto_region 1 with fail
  rw [HW0.out, HH.out]
  go_wp2_with fail
  refine HC.out.mono ?_
  rintro e w1 ⟨a1, c1, rfl, ⟨hL1, hc1, hm1⟩, hx1⟩
  obtain ⟨K, hK⟩ : ∃ K, w1.heap.size = K := ⟨_, rfl⟩
  obtain ⟨U, hU⟩ : ∃ U, w1.alloc (.cells #[.int .i64 N, .slice a1 n c1] 24) = U := ⟨_, rfl⟩
  have EU : Ext w1 U := by rw [← hU]; exact ext_al _ _
  have bU : DvB U K N a1 n c1 := by rw [← hU, ← hK]; exact ⟨heap_alloc_new w1 _⟩
  have HX := Lib.hid (hx1.trans EU); have HbU := Lib.hid bU; have HLU := Lib.hid (hL1.ext EU); have HU := Lib.hid hU; have HK := Lib.hid hK
  have HCk := Lib.hid (devCheck_any N ls a1 n c1 U (hL1.ext EU) Hn6.out)
  obtain ⟨d, hd⟩ : ∃ d, devF N ls = d := ⟨_, rfl⟩
  obtain ⟨d0, d1⟩ := d
  rw [hd] at HCk
  have Hd := Lib.hid hd
  have u0 := bU.x0; have u1 := bU.x1
  clear hL1 hc1 hm1 hx1 EU bU hU hK hd v0 v1 HC
  go_upto_region 2 with fail
  rw [HU.out, HK.out]
  clear HU HK
  go_wp2_with fail
  refine HCk.out.mono ?_
  rintro e w2 ⟨rfl, hx2⟩
  obtain ⟨K2, hK2⟩ : ∃ K2, w2.heap.size = K2 := ⟨_, rfl⟩
  obtain ⟨V, hV⟩ : ∃ V, w2.alloc (.cells #[.int .i64 d0, .int .i64 d1] 27) = V := ⟨_, rfl⟩
  have EV : Ext w2 V := by rw [← hV]; exact ext_al _ _
  have bV : FtB V K2 d0 d1 := by rw [← hV, ← hK2]; exact ⟨heap_alloc_new w2 _⟩
  have EUV := hx2.trans EV
  have EWV := HX.out.trans EUV
  have HEV := Lib.hid EWV; have HbV := Lib.hid bV; have HV := Lib.hid hV; have HK2 := Lib.hid hK2; have HLV := Lib.hid (HLU.out.ext EUV); have HUV := Lib.hid (HbU.out.ext EUV); have HDV := Lib.hid (HD.out.ext EWV); have HhV := Lib.hid (Hh.out.ext EWV)
  clear u0 u1 hx2 EV bV EUV EWV hV hK2 HCk
  go_upto_region 3 with fail
  rw [HV.out, HK2.out]
  clear HV HK2
  obtain ⟨X, Fw, hXn, hFe, hFs⟩ := fam V
  have f0 : ∀ x, (Fw x).cell? ⟨H, 0, none⟩ = some (.int .i64 N) := fun x => (HDV.out.ext (hFe x)).x0
  have f1 : ∀ x, (Fw x).cell? ⟨H, 1, none⟩ = some (.slice ao n cp) := fun x => (HDV.out.ext (hFe x)).x1
  have f2 : ∀ x, (Fw x).cell? ⟨K, 0, none⟩ = some (.int .i64 N) := fun x => (HUV.out.ext (hFe x)).x0
  have f3 : ∀ x, (Fw x).cell? ⟨K, 1, none⟩ = some (.slice a1 n c1) := fun x => (HUV.out.ext (hFe x)).x1
  have f4 : ∀ x, (Fw x).cell? ⟨K2, 0, none⟩ = some (.int .i64 d0) := fun x => (HbV.out.ext (hFe x)).x0
  have f5 : ∀ x, (Fw x).cell? ⟨K2, 1, none⟩ = some (.int .i64 d1) := fun x => (HbV.out.ext (hFe x)).x1
  have hUd : Ext V V.drew := Below.drew (Ext.refl V)
  have HB := Lib.hid (fun wx (hx : Ext V wx) => routeBegun_any wx (HS.out.ext (HEV.out.trans hx)) (bruM_ext HT.out (HEV.out.trans hx)))
  have HCD := Lib.hid (fun wx (hx : Ext V wx) => CheckDevice_any N ls ao n cp wx (HhV.out.ext hx) Hn6.out Hnc.out Hcp.out)
  rw [Hd.out] at HCD
  have HSD := Lib.hid (fun wx (hx : Ext V wx) => sameDevice_any N ls a1 n c1 ao cp wx (HLV.out.ext hx) (HhV.out.ext hx) Hn6.out)
  refine wp_region_M (by kernel_rfl) (by kernel_rfl) (hFs _ hUd) ?_
  repeat (go_big_quiet_step (first | exact (HB.out _ (hFe _)).mono (fun e w' h => ⟨h.1, hFs _ ((hFe _).trans h.2)⟩) | exact (HCD.out _ (hFe _)).mono (fun e w' h => ⟨h.1, hFs _ ((hFe _).trans h.2)⟩) | exact (HSD.out _ (hFe _)).mono (fun e w' h => ⟨h.1, hFs _ ((hFe _).trans h.2)⟩)))
  refine wpQuiet_nil ?_
  rintro _ ⟨xq, rfl⟩
  have HEf := Lib.hid (HE0.out.trans (HEV.out.trans (hFe xq)))
  generalize Fw xq = W2 at *
  clear f0 f1 f2 f3 f4 f5 hFe hFs hXn
  go_wp2_with fail
  go_ret
  exact ⟨rfl, HEf.out⟩
end Go.Proofs.YtlokfalkhgjlbaaDoor
namespace Go.Proofs.YtlokfalkhgjlbaaDoor
open Go.RowKit Go.ChangeShapes Go.WideShapes Go.Deep

instance : Inhabited Gop := ⟨⟨0, 0, [], 0, 0, []⟩⟩

theorem addr_at (b o t : Nat) : (⟨b, o, none⟩ : Addr).add t = ⟨b, o + t, none⟩ := by
  unfold Addr.add
  by_cases h : t = 0 <;> simp [h]

section
variable {H : Type} {enc : TypeId × Value → H} {W : World}

theorem cells_int : Tryd.prog.cellsOf 3 = 1 := by kernel_rfl
end

end Go.Proofs.YtlokfalkhgjlbaaDoor
namespace Go.Proofs.YtlokfalkhgjlbaaDoor
open Go.RowKit Go.ChangeShapes Go.WideShapes

set_option maxRecDepth 100000 in
theorem shape_row {H : Type} {enc : TypeId × Value → H} {W : World} {base : Nat} {sp : Nat → Bool} {held : Bool} {fuel : Nat} {cs : List Value} {s : List UInt8} {a b c d : Bool} {p : List MemPlace}
    (h : DataW.trod enc Tryd.prog W base sp held fuel 118 cs = some (.agg [.lit (.string s), .lit (.bool a), .lit (.bool b), .lit (.bool c), .lit (.bool d)], p)) :
    cs = [.string ⟨s.toArray⟩, .bool a, .bool b, .bool c, .bool d] := by
  obtain ⟨xs, n, _, hx, hl, hlen, hf⟩ := DataW.trod_struct Tryd.underlying118 h
  have hc : Tryd.prog.cellsOf 118 = 5 := by kernel_rfl
  rw [hc] at hl
  match xs, hlen, cs, hl with
  | [y0, y1, y2, y3, y4], _, [v0, v1, v2, v3, v4], _ =>
    have g0 := hf 0 _ rfl
    have g1 := hf 1 _ rfl
    have g2 := hf 2 _ rfl
    have g3 := hf 3 _ rfl
    have g4 := hf 4 _ rfl
    simp only [List.getElem?_cons_zero, List.getElem?_cons_succ] at g0 g1 g2 g3 g4
    obtain ⟨s0, e0, z0, _⟩ := DataW.trod_string Tryd.underlying9 g0
    obtain ⟨b1, e1, z1⟩ := DataW.trod_bool Tryd.underlying4 g1
    obtain ⟨b2, e2, z2⟩ := DataW.trod_bool Tryd.underlying4 g2
    obtain ⟨b3, e3, z3⟩ := DataW.trod_bool Tryd.underlying4 g3
    obtain ⟨b4, e4, z4⟩ := DataW.trod_bool Tryd.underlying4 g4
    subst z0; subst z1; subst z2; subst z3; subst z4
    injection hx with hd _
    simp only [List.map_cons, List.map_nil, DataW.agg.injEq, List.cons.injEq, DataW.lit.injEq, Lit.string.injEq, Lit.bool.injEq, and_true] at hd
    obtain ⟨rfl, rfl, rfl, rfl, rfl⟩ := hd
    injection e0 with e0; injection e1 with e1; injection e2 with e2; injection e3 with e3; injection e4 with e4
    rw [e0, e1, e2, e3, e4]

set_option maxRecDepth 100000 in
theorem shp_of_laid {W : World} (h : laidMet Tryd.prog [("qloom/circ.shapes", Rows.laid_qloom_circ_shapes)] W) : Shp W := by
  obtain ⟨ps, ⟨g', t', cs, fuel, p, q, hg', ht', hvar, hd, _, _⟩, _⟩ := h
  obtain rfl := Option.some.inj ((show Tryd.prog.globalNamed "qloom/circ.shapes" = some 0 by kernel_rfl).symm.trans hg')
  obtain rfl := Option.some.inj ((show (Tryd.prog.globals[0]?).map (·.type) = some 119 by kernel_rfl).symm.trans ht')
  obtain ⟨xs, m, _, hx, hl, hlen, hf⟩ := DataW.trod_array Tryd.underlying119 hd
  have hc : Tryd.prog.cellsOf 118 = 5 := by kernel_rfl
  rw [hc] at hf
  match xs, hlen with
  | [y0, y1, y2, y3, y4, y5, y6], _ =>
    injection hx with hx _
    unfold Rows.laid_qloom_circ_shapes at hx
    simp only [List.map_cons, List.map_nil, DataW.agg.injEq, List.cons.injEq, and_true] at hx
    obtain ⟨_, x1, x2, x3, x4, x5, x6⟩ := hx
    have key : ∀ (k : Nat) (y : DataW Unit × List MemPlace) (s : List UInt8) (a b c d : Bool), k < 7 → [y0, y1, y2, y3, y4, y5, y6][k]? = some y → .agg [.lit (.string s), .lit (.bool a), .lit (.bool b), .lit (.bool c), .lit (.bool d)] = y.1 →
        W.cell? ⟨0, k * 5, none⟩ = some (.string ⟨s.toArray⟩) ∧ W.cell? ⟨0, k * 5 + 1, none⟩ = some (.bool a) ∧ W.cell? ⟨0, k * 5 + 2, none⟩ = some (.bool b) ∧ W.cell? ⟨0, k * 5 + 3, none⟩ = some (.bool c) ∧ W.cell? ⟨0, k * 5 + 4, none⟩ = some (.bool d) := by
      intro k y s a b c d hk hy he
      have h1 := hf k hk
      rw [hy] at h1
      obtain ⟨yd, yp⟩ := y
      simp only at he
      subst he
      have h2 := shape_row h1
      have h3 : ∀ j, j < 5 → W.cell? ⟨0, k * 5 + j, none⟩ = ([.string ⟨s.toArray⟩, .bool a, .bool b, .bool c, .bool d] : List Value)[j]? := by
        intro j hj
        rw [World.var?_cell hg' hvar, ← h2, List.getElem?_take, if_pos hj, List.getElem?_drop, Array.getElem?_toList]
      exact ⟨h3 0 (by omega), h3 1 (by omega), h3 2 (by omega), h3 3 (by omega), h3 4 (by omega)⟩
    intro k h1 h6
    have hk : k = 1 ∨ k = 2 ∨ k = 3 ∨ k = 4 ∨ k = 5 ∨ k = 6 := by omega
    rcases hk with rfl | rfl | rfl | rfl | rfl | rfl
    · exact key 1 y1 _ _ _ _ _ (by omega) rfl x1
    · exact key 2 y2 _ _ _ _ _ (by omega) rfl x2
    · exact key 3 y3 _ _ _ _ _ (by omega) rfl x3
    · exact key 4 y4 _ _ _ _ _ (by omega) rfl x4
    · exact key 5 y5 _ _ _ _ _ (by omega) rfl x5
    · exact key 6 y6 _ _ _ _ _ (by omega) rfl x6

/-- What lay there is as it was: what is asked behind the call. -/
theorem post_kept {H : Type} {enc : TypeId × Value → H} {P : Program} {f : Func} {s : ChangeSpec} {apart fresh handsOn again : Bool} {W W' : World} {args : Array Value} {v : Value} {ds gs : List (DataW H)} {ps : List MemPlace}
    (hW : DataW.Whole enc P f.params.toList s.vars apart W args.toList ds gs ps)
    (hres : ∀ (b : Nat) (sp : Nat → Bool) (hd : Bool), DataW.TrodAll enc P W' b sp hd f.resultTypes.toList (v.resultList f.resultTypes.size) (s.fn H (ds ++ gs)).results [])
    (hargs : ∀ sp : Nat → Bool, (∀ x ∈ ps, sp x.block = true) → DataW.TrodAll enc P W' 0 sp true f.params.toList args.toList (s.fn H (ds ++ gs)).args ps)
    (hvars : ∀ sp : Nat → Bool, DataW.TrodVars enc P W' sp s.vars (s.fn H (ds ++ gs)).vars [])
    (hb : Ext W W')
    (hok : ∀ (j : Nat) (t : TypeId) (r : Value), f.resultTypes[j]? = some t → (v.resultList f.resultTypes.size)[j]? = some r → Value.okWide P W' .any 0 t r) :
    s.post enc P f apart fresh handsOn again W args v W' := by
  have hlt := hW.lt
  have hold : ∀ x ∈ ps, decide (x.block < W.heap.size) = true := fun x hx => by simpa using hlt x hx
  have hall : ∀ x ∈ ps, (fun _ : Nat => true) x.block = true := fun _ _ => rfl
  have hn : W.noneFrozen ps ∧ (apart = true → ps.Nodup) := by
    obtain ⟨_, _, _, _, rfl, h1, h2⟩ := hW
    exact ⟨h1, h2⟩
  refine ⟨ds, gs, ps, [], ps, [], hW, hres _ _ _, hargs _ hold, hvars _, Below.frame hb _, fun _ => ?_⟩
  refine ⟨hok, _, _, ([] ++ ps) ++ [], ⟨[] ++ ps, [], trodAll_append (hargs (fun _ => true) hall) (hres _ _ _), hvars _, rfl, ?_, ?_⟩, ?_⟩
  · intro b off hp
    have hp' : MemPlace.cell b off ∈ ps := by simpa using hp
    rw [Below.frozen hb (p := ⟨b, off, none⟩) (hlt _ hp')]
    exact hn.1 b off hp'
  · intro ha
    simpa using hn.2 ha
  · intro x hx _
    simpa using hx

end Go.Proofs.YtlokfalkhgjlbaaDoor
namespace Go.Proofs.YtlokfalkhgjlbaaDoor
open Go.RowKit Go.ChangeShapes Go.WideShapes Go.Deep

section
variable {H : Type} {enc : TypeId × Value → H} {W : World}
theorem bytes_lnk : Tryd.prog.bytesOf 76 = 16 := by kernel_rfl
theorem cells_lnk : Tryd.prog.cellsOf 76 = 2 := by kernel_rfl
theorem cells_dv : Tryd.prog.cellsOf 24 = 2 := by kernel_rfl

set_option maxRecDepth 100000 in
theorem open_lnk {fuel : Nat} {cs : List Value} {x : DataW H × List MemPlace} (h : DataW.trod enc Tryd.prog W 0 (fun _ => true) true fuel 76 cs = some x) :
    ∃ k : Lnk, cs = [.int .i64 k.1, .int .i64 k.2] := by
  obtain ⟨xs, n, _, rfl, hl, hlen, hf⟩ := DataW.trod_array Tryd.underlying76 h
  rw [cells_lnk] at hl
  rw [cells_int] at hf
  match xs, hlen, cs, hl with
  | [y0, y1], _, [v0, v1], _ =>
    have g0 := hf 0 (by omega)
    have g1 := hf 1 (by omega)
    simp only [List.getElem?_cons_zero, List.getElem?_cons_succ] at g0 g1
    obtain ⟨k0, e0, _⟩ := DataW.trod_int Tryd.underlying3 g0
    obtain ⟨k1, e1, _⟩ := DataW.trod_int Tryd.underlying3 g1
    have e0' : v0 = .int .i64 k0 := by simpa using e0
    have e1' : v1 = .int .i64 k1 := by simpa using e1
    exact ⟨(k0, k1), by rw [e0', e1']⟩

set_option maxRecDepth 100000 in
theorem open_device {v : Value} {d : DataW H} {p : List MemPlace} {base : Nat} (hok : Value.okWide Tryd.prog W .any base 24 v) (h : DataW.Trod enc Tryd.prog W 0 (fun _ => true) true 24 v d p) (hz : ∀ k ∈ d.weights Tryd.prog 24, k ≤ reachBytes) :
    ∃ (N : Int) (ls : List Lnk) (ao : Option Addr) (n cp : Nat), v = .agg #[.int .i64 N, .slice ao n cp] ∧ LnkAt W ao n ls ∧ n ≤ cp ∧ cp ≤ 9223372036854775807 ∧ n * 16 ≤ 140737488355328 ∧ (ao = none → cp = 0) := by
  obtain ⟨fuel, h⟩ := h
  have hv : ∃ cs : Array Value, v = .agg cs := by
    unfold Value.okWide at hok
    rw [Tryd.underlying24] at hok
    obtain ⟨cs, e, _⟩ := hok
    exact ⟨cs, e⟩
  obtain ⟨cs, rfl⟩ := hv
  obtain ⟨xs, n, _, hx0, hl, hlen, hf⟩ := DataW.trod_struct Tryd.underlying24 h
  obtain ⟨cl⟩ := cs
  have hcl : (Value.agg ⟨cl⟩).cells.toList = cl := rfl
  rw [hcl] at hl hf
  rw [cells_dv] at hl
  match xs, hlen, cl, hl with
  | [y0, y1], _, [v0, v1], _ =>
    injection hx0 with hd hp
    subst hd
    have g0 := hf 0 _ rfl
    have g1 := hf 1 _ rfl
    simp only [List.getElem?_cons_zero, List.getElem?_cons_succ] at g0 g1
    obtain ⟨N, e0, _⟩ := DataW.trod_int Tryd.underlying3 g0
    injection e0 with e0
    have hz2 : ∀ k ∈ y1.1.weights Tryd.prog 22, k ≤ reachBytes := fun k hk => hz k (by simp [DataW.weights, Tryd.underlying24, DataW.weightsEach, hk])
    rcases open_slice Tryd.underlying22 g1 with ⟨e2, _⟩ | ⟨a, len, cap, m, n', D, Pl, e2, _, hl2, hm2, hmm, hy2, hx⟩
    · injection e2 with e2
      exact ⟨N, [], none, 0, 0, by rw [e0, e2], ⟨rfl, Or.inl rfl⟩, by omega, by omega, by omega, fun _ => rfl⟩
    · injection e2 with e2
      have hmc : m = cap := by simpa using hmm
      subst hmc
      rw [cells_lnk] at hx
      subst hy2
      have hr : reachBytes ≤ 140737488355328 := by decide
      have hb := hz2 ((len + (m - len)) * Tryd.prog.bytesOf 76) (by simp [DataW.weights, Tryd.underlying22])
      rw [bytes_lnk] at hb
      obtain ⟨b, o, spot⟩ := a
      have hpos : 0 < len → spot = none := fun h0 => by
        obtain ⟨cs', h1, _⟩ := hx 0 (by omega)
        obtain ⟨_, hlen', hc⟩ := World.cells?_some h1
        have h2 := hc 0 (by omega)
        rw [List.getElem?_eq_getElem (by omega)] at h2
        simpa [Addr.add] using World.cell?_spot h2
      obtain ⟨G, hG⟩ := choose_lt (α := Lnk) (n := len) (p := fun i g => W.cell? ⟨b, o + i * 2, none⟩ = some (.int .i64 g.1) ∧ W.cell? ⟨b, o + i * 2 + 1, none⟩ = some (.int .i64 g.2)) (fun i hi => by
        obtain rfl := hpos (by omega)
        obtain ⟨cs', h1, h2⟩ := hx i (by omega)
        obtain ⟨_, _, hc⟩ := World.cells?_some h1
        obtain ⟨g, rfl⟩ := open_lnk h2
        have hc' : ∀ j, j < 2 → W.cell? ⟨b, o + i * 2 + j, none⟩ = ([.int .i64 g.1, .int .i64 g.2] : List Value)[j]? := fun j hj => by have := hc j hj; rw [add_add, addr_at, ← Nat.add_assoc] at this; exact this
        exact ⟨g, hc' 0 (by omega), hc' 1 (by omega)⟩)
      refine ⟨N, (List.range len).map G, some ⟨b, o, spot⟩, len, m, by rw [e0, e2], ⟨by simp, ?_⟩, hl2, hm2, by omega, fun e => by cases e⟩
      by_cases h0 : len = 0
      · exact Or.inl h0
      · obtain rfl := hpos (by omega)
        obtain ⟨hc0, _⟩ := hG 0 (by omega)
        refine Or.inr ⟨b, o, rfl, World.block_lt_of_cell? W _ hc0, fun t ht => ?_⟩
        have := hG t ht
        have e : ((List.range len).map G).getD t (0, 0) = G t := by
          rw [List.getD_eq_getElem?_getD, List.getElem?_map, List.getElem?_range ht]; rfl
        rw [e]; exact this
end
end Go.Proofs.YtlokfalkhgjlbaaDoor
