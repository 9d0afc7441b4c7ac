/-
  The reference: a code's distance (DistanceOf).
-/
import Derived.Test.YtfoncakadficlaaDoorProg
import Derived.Test.YtfoncakadficlaaDoorRows
import Derived.BigQuiet
import Derived.Deep.AppendLies
import Derived.Deep.Cut
import Derived.Deep.CutRange
import Derived.Deep.LoopGhost
import Derived.Deep.QuietTactic
import Derived.Deep.RegionHeld3
import Derived.DeepKeys4
import Derived.Laws.Bits64b
import Derived.Laws.CopyOwn
import Derived.Laws.ResultCell
import Derived.Lib.AppendStr
import Derived.Lib.BitFns
import Derived.Lib.Hide
import Derived.Lib.ItoaMem
import Derived.Lib.ItoaNum
import Derived.Lib.Strings
import Derived.LoopIn
import Derived.LoopNIn
import Derived.Maps.AppendAt
import Derived.Maps.OwnSet
import Derived.OwnWalk
import Derived.OwnWalkIn
import Derived.RangeFuncBound
import Derived.RangeFuncBox
import Derived.RangeFuncCalls
import Derived.RangeFuncGives
import Derived.RangeFuncLeaves
import Derived.RangeFuncNested
import Derived.RangeFuncStops
import Derived.Shelf.Abstract
import Derived.Shelf.Bits.Mul64
import Derived.Shelf.RegionOpen
import Derived.Shelf.Small.Strs
import Derived.Shelf.Strings.Builder1
import Derived.Shelf.Strings.BuilderF
import Derived.Shelf.Strings.BuilderK
import Derived.Shelf.Strings.Prefix
import Derived.Shelf.Strings.Search1
import Derived.Sort.MapsRangeIn
import Derived.TacticsInMore
import Derived.WalkKit
import Derived.WalkLawsBesides
import Derived.WalkSpells
import Derived.Test.YtfoncakadficlaaDoorS00Ca
import Derived.Test.YtfoncakadficlaaDoorShelf
import Derived.Test.YtfoncakadficlaaDoorS02Ig
import Derived.Test.YtfoncakadficlaaDoorS03In
import Derived.Test.YtfoncakadficlaaDoorS04Is
import Derived.Test.YtfoncakadficlaaDoorS05It
import Derived.Test.YtfoncakadficlaaDoorS06Ix
import Derived.Test.YtfoncakadficlaaDoorS07Aa
import Derived.Test.YtfoncakadficlaaDoorS08Aj
import Derived.Test.YtfoncakadficlaaDoorS09Al
import Derived.Test.YtfoncakadficlaaDoorS10Am
namespace Go.Proofs.YtfoncakadficlaaDoor
open Go.RowKit

/-- Is this weight less than the best so far, and the error's (does it show nowhere, is it a product)? -/
def disB (best we : Nat) (qe ge : Bool) : Bool := (decide (best = 0) || decide (we < best)) && decide (0 < we) && qe && !ge
/-- The least weight so far. -/
def disF (Q G : List UInt8 → Bool) (L : List (List UInt8)) : Nat := L.foldl (fun b e => if disB b (wtT e) (Q e) (G e) then wtT e else b) 0
theorem disF_snoc (Q G : List UInt8 → Bool) (L : List (List UInt8)) (e : List UInt8) : disF Q G (L ++ [e]) = if disB (disF Q G L) (wtT e) (Q e) (G e) then wtT e else disF Q G L := by
  unfold disF
  rw [List.foldl_append]
  rfl
theorem bar_let {n : Nat} {gens : List (List UInt8)} (hall : ∀ T ∈ gens, isP n T = true) : ∀ T ∈ barL gens, Let n T := fun T hT => by
  obtain ⟨G, hG, rfl⟩ := List.mem_map.1 hT
  exact (isP_let (hall G hG)).2
set_option maxHeartbeats 32000000 in
set_option maxRecDepth 100000 in
theorem DistanceOf_any (gens : List (List UInt8)) (ao : Option Addr) (k c : Nat) (w : World) (hG : StrsAt w ao k gens) (n : Nat) (hk : k ≤ n) (hn : n ≤ 5) (hn1 : 1 ≤ n) (hall : ∀ T ∈ gens, isP n T = true) :
    Calls Tryd.prog 17 #[.agg #[.int .i64 (n : Int), .slice ao k c]] w fun r w' => r = .returned (.int .i64 ((disF (fun e => quB (synL gens e)) (inG (grR n (barL gens))) (erR n) : Nat) : Int)) ∧ Ext w w' := by
  obtain ⟨U, hU⟩ : ∃ U, w.alloc (.cells #[.int .i64 (n : Int), .slice ao k c] 24) = U := ⟨_, rfl⟩
  obtain ⟨H, hH⟩ : ∃ H, w.heap.size = H := ⟨_, rfl⟩
  have EU : Ext w U := by rw [← hU]; exact ext_al _ _
  have C0 : CoB U H n ao k c := by rw [← hU, ← hH]; exact CoB.new w _ _ _ _
  have HG := Lib.hid (hG.ext EU); have Hk := Lib.hid hk; have Hn := Lib.hid (And.intro hn hn1); have Hall := Lib.hid hall; have HEU := Lib.hid EU; have HC := Lib.hid C0; have HU := Lib.hid hU; have HH := Lib.hid hH
  obtain ⟨R, hR⟩ : ∃ R, disF (fun e => quB (synL gens e)) (inG (grR n (barL gens))) (erR n) = R := ⟨_, rfl⟩
  rw [hR]
  have HR := Lib.hid hR
  have Hlg := Lib.hid (show gens.length = k from hG.1)
  have k0 := C0.x0; have k1 := C0.x1
  clear hG hk hn hn1 hall EU C0 hU hH hR
  go_enter Tryd.func17, Tryd.ntmps17
  go_upto_region 1 with fail
  rw [HU.out, HH.out]
  clear HU HH
  have HBa := Lib.hid (bare_any gens ao k c U HG.out (by have := Hn.out; have := Hk.out; omega) (fun T hT => by have := (isP_let (Hall.out T hT)).1; omega))
  go_wp2_with fail
  refine HBa.out.mono ?_
  rintro e w1 ⟨⟨v1, rfl, hr1⟩, hx1⟩
  obtain ⟨a1, c1, rfl, hac1, hcm1, hS1⟩ := strs_of_own hr1
  have HGr := Lib.hid (Group_any (barL gens) n a1 k c1 w1 hS1 (by have := Hn.out; have := Hk.out; omega) (by have := Hn.out; omega) (bar_let Hall.out))
  have H1 := Lib.hid hx1
  have k0' := cell_ext k0 hx1
  clear hr1 hx1 hac1 hcm1 hS1 HBa k0 k1
  go_wp2_with fail
  refine HGr.out.mono ?_
  rintro e w2 ⟨⟨v2, rfl, hr2⟩, hx2⟩
  obtain ⟨a2, c2, rfl, hac2, hcm2, hS2⟩ := strs_of_own hr2
  obtain ⟨G, hGG⟩ : ∃ G, grR n (barL gens) = G := ⟨_, rfl⟩
  rw [hGG] at hS2 HR ⊢
  obtain ⟨gn, hgn⟩ : ∃ gn, G.length = gn := ⟨_, rfl⟩
  rw [hgn] at hS2 ⊢
  have hgn6 : gn ≤ 9223372036854775806 := by
    have h9 : maxLen = 9223372036854775807 := rfl
    rw [hGG, hgn] at hac2
    have h5 : gn ≤ 4096 := by
      rw [← hgn, ← hGG]
      unfold grR
      split
      · simp
      · rw [(grp_is n (barL gens) (bar_let Hall.out)).2.2]
        have : (barL gens).length ≤ 5 := by unfold barL; rw [List.length_map, Hlg.out]; have := Hn.out; have := Hk.out; omega
        have : 2 ^ (barL gens).length ≤ 2 ^ 5 := Nat.pow_le_pow_right (by decide) this
        omega
    omega
  have k0 := cell_ext k0' hx2
  have H2 := Lib.hid (H1.out.trans hx2); have HS2 := Lib.hid hS2; have Hgn := Lib.hid hgn6
  have HEr := Lib.hid (Errors_any n w2 Hn.out.1)
  have Hlen := Lib.hid (fun e he => ((erR_let n e).1 he).1)
  obtain ⟨es, hes⟩ : ∃ es, erR n = es := ⟨_, rfl⟩
  rw [hes] at HEr HR Hlen
  obtain ⟨en, hen⟩ : ∃ en, es.length = en := ⟨_, rfl⟩
  rw [hen] at HEr
  have hen6 : en ≤ 1024 := by
    rw [← hen, ← hes, erR_len]
    have : 4 ^ n ≤ 4 ^ 5 := Nat.pow_le_pow_right (by decide) Hn.out.1
    have h : (4 : Nat) ^ 5 = 1024 := by decide
    omega
  have Hen := Lib.hid (And.intro hen hen6)
  clear hr2 hx2 hac2 hcm2 hS2 hgn hgn6 HGr k0' hes hen hen6 hGG
  go_wp2_with fail
  refine HEr.out.mono ?_
  rintro e w3 ⟨⟨v3, rfl, hr3⟩, hx3⟩
  obtain ⟨a3, c3, rfl, hac3, hcm3, hS3⟩ := strs_of_own hr3
  have H3 := Lib.hid (H2.out.trans hx3); have HE := Lib.hid hS3; have HS2 := Lib.hid (HS2.out.ext hx3)
  clear hr3 hx3 hac3 hcm3 hS3 HEr k0 H1 H2
  go_wp2_with fail
  go_loopg [5, 6] en (fun kk s5 s6 wr => Ext w3 wr ∧ ∃ i m : Nat, s6 = .int .i64 (i : Int) ∧ i ≤ en ∧ en - i = kk ∧ s5 = .int .i64 (m : Int) ∧ disF (fun e => quB (synL gens e)) (inG G) (es.take i) = m)
  case atStart => exact ⟨Ext.refl _, 0, 0, rfl, Nat.zero_le _, rfl, rfl, rfl⟩
  case round =>
    obtain ⟨hER, i, best, rfl, hi, hkk, rfl, hbest⟩ := hrel
    have HER := Lib.hid hER; have Hkk := Lib.hid hkk
    by_cases hin : i = en
    · have q1 : ¬ (i : Int) < (en : Int) := by omega
      have e1 : es.take i = es := List.take_of_length_le (by have := Hen.out.1; omega)
      rw [e1, HR.out] at hbest
      subst hbest
      clear e1 hin hi hER hkk
      go_wp2_with fail
      go_ret
      exact ⟨rfl, HEU.out.trans (H3.out.trans HER.out)⟩
    have hlt : i < en := by omega
    have q1 : (i : Int) < (en : Int) := by omega
    have q0 : (0 : Int) ≤ (i : Int) := by omega
    have wk : IntKind.i64.wrap ((i : Int) + 1) = ((i + 1 : Nat) : Int) := by rw [IntKind.wrap_i64]; have := Hen.out; omega
    obtain ⟨e, he⟩ : ∃ e, es[i]? = some e := ⟨_, List.getElem?_eq_getElem (by have := Hen.out.1; omega)⟩
    obtain ⟨b3, o3, rfl, _, hcs⟩ := (HE.out.ext hER).at (by omega)
    have c0 := hcs i hlt
    rw [show es.getD i [] = e by rw [List.getD_eq_getElem?_getD, he]; rfl] at c0
    have hlen := Hlen.out e (List.mem_of_getElem? he)
    have hbst := disF_snoc (fun e => quB (synL gens e)) (inG G) (es.take i) e
    have htk : es.take i ++ [e] = es.take (i + 1) := by rw [List.take_add_one, he]; rfl
    rw [htk, hbest] at hbst
    obtain ⟨we, hwe⟩ : ∃ we, wtT e = we := ⟨_, rfl⟩
    obtain ⟨qe, hqe⟩ : ∃ qe, quB (synL gens e) = qe := ⟨_, rfl⟩
    obtain ⟨ge, hge⟩ : ∃ ge, inG G e = ge := ⟨_, rfl⟩
    have HWe := Lib.hid (fun wx => rWeight_any e wx (by have := Hn.out; omega))
    rw [hwe] at HWe
    rw [hwe, hqe, hge] at hbst
    obtain ⟨C, hC⟩ : ∃ C, disB best we qe ge = C := ⟨_, rfl⟩
    rw [hC] at hbst
    have Hbst := Lib.hid hbst; have HC2 := Lib.hid hC; have Hlt := Lib.hid hlt
    have hEw := H3.out.trans hER
    have v0 := (HC.out.ext hEw).x0; have v1 := (HC.out.ext hEw).x1
    have HSO := Lib.hid (fun (wx : World) (hx : Ext wr wx) => SyndromeOf_any (n : Int) gens e ao k c wx (HG.out.ext (hEw.trans hx)) (by have := Hn.out; have := Hk.out; omega) n (by have := Hn.out; omega) (fun T hT => (isP_let (Hall.out T hT)).1) hlen)
    have HQu := Lib.hid (fun (a8 : Option Addr) (c8 : Nat) (w8 : World) (hI : IntsAt w8 a8 k (synL gens e)) => quiet_any (synL gens e) a8 k c8 w8 hI (by have := Hn.out; have := Hk.out; omega))
    rw [hqe] at HQu
    have HIn := Lib.hid (fun (wx : World) (hx : Ext wr wx) => InGroup_any G e a2 gn c2 wx ((HS2.out.ext hER).ext hx) Hgn.out (by have := Hn.out; omega))
    rw [hge] at HIn
    clear hER hkk hi hin hlt he hcs hlen hbst htk hwe hqe hge hC hEw hbest
    go_upto_region 7 with fail
    go_wp2_with fail
    refine (HWe.out wr).mono ?_
    rintro r w4 ⟨rfl, h4⟩
    have v0 := cell_ext v0 h4; have v1 := cell_ext v1 h4; have c0 := cell_ext c0 h4
    have H4 := Lib.hid h4
    have HSO4 := Lib.hid (fun (wx : World) (hx : Ext w4 wx) => HSO.out wx (h4.trans hx))
    have HIn4 := Lib.hid (fun (wx : World) (hx : Ext w4 wx) => HIn.out wx (h4.trans hx))
    have HSO := HSO4
    have HIn := HIn4
    clear h4 HWe HSO4 HIn4
    have HSj := Lib.hid (fun (w' : World) (hx : Ext w4 w') => (show w'.cell? ⟨H, 0, none⟩ = some (.int .i64 (n : Int)) ∧ w'.cell? ⟨H, 1, none⟩ = some (.slice ao k c) ∧ w'.cell? ⟨b3, o3 + i, none⟩ = some (.string ⟨e.toArray⟩) from ⟨cell_ext v0 hx, cell_ext v1 hx, cell_ext c0 hx⟩))
    go_upto_region 8 with fail
    go_cut [54] from 15 to 55 (fun s54 wx => s54 = .bool C ∧ Ext w4 wx)
    case first =>
      clear v0 v1 c0
      by_cases hb : best = 0
      · have t0 := bt' (show (best : Int) = 0 by omega)
        have HFi := Lib.hid (show (decide (best = 0) || decide (we < best)) = true by rw [decide_eq_true hb]; rfl)
        clear hb
        by_cases hw0 : we = 0
        · have q3 : decide ((0 : Int) < (we : Int)) = false := decide_eq_false (by omega)
          have q3' : decide (0 < we) = false := decide_eq_false (by omega)
          have HCn := Lib.hid (show false = C by rw [← HC2.out, hw0]; simp [disB])
          clear hw0
          have Ew0 : Ext w4 w4.drew := Below.drew (Ext.refl _)
          refine wp_region_K 28 (fun w' => w'.cell? ⟨H, 0, none⟩ = some (.int .i64 (n : Int)) ∧ w'.cell? ⟨H, 1, none⟩ = some (.slice ao k c) ∧ w'.cell? ⟨b3, o3 + i, none⟩ = some (.string ⟨e.toArray⟩)) (by kernel_rfl) ?_
          show anyK _ _ _ _ _ _ 29 #[false, false, false, false, false, false, false, false, false, false, false, false, false, false, false, false, false, false, false, false, false, false, false, false, false, false, false, false, false] _ _
          refine anyK_take (i := 0) (v := ?_) rfl (by kernel_rfl) (by kernel_rfl) (by kernel_rfl) (N := 29) (by kernel_rfl) (by kernel_rfl) (by kernel_rfl) (fun _ _ _ h => h) (Or.inl ⟨by rfl, ?_⟩) (HSj.out _ Ew0) ?_
          rotate_left 1
          · intro w hSw
            go_simp
            try with_reducible rfl
          show anyK _ _ _ _ _ _ _ _ (Act.put _ (some 26) _) _
          simp only [Act.put, List.setIfInBounds_toArray, List.set_cons_zero, List.set_cons_succ]
          refine anyK_take (i := 1) (v := ?_) rfl (by kernel_rfl) (by kernel_rfl) (by kernel_rfl) (N := 29) (by kernel_rfl) (by kernel_rfl) (by kernel_rfl) (fun _ _ _ h => h) (Or.inl ⟨by rfl, ?_⟩) (HSj.out _ Ew0) ?_
          rotate_left 1
          · intro w hSw
            go_simp
            try with_reducible rfl
          show anyK _ _ _ _ _ _ _ _ (Act.put _ (some 27) _) _
          simp only [Act.put, List.setIfInBounds_toArray, List.set_cons_zero, List.set_cons_succ]
          refine anyK_take (i := 2) (v := ?_) rfl (by kernel_rfl) (by kernel_rfl) (by kernel_rfl) (N := 29) (by kernel_rfl) (by kernel_rfl) (by kernel_rfl) (fun _ _ _ h => h) (Or.inl ⟨by rfl, ?_⟩) (HSj.out _ Ew0) ?_
          rotate_left 1
          · intro w hSw
            go_simp
            try with_reducible rfl
          show anyK _ _ _ _ _ _ _ _ (Act.put _ (some 28) _) _
          simp only [Act.put, List.setIfInBounds_toArray, List.set_cons_zero, List.set_cons_succ]
          refine anyK_take (i := 3) (v := undef) rfl (by kernel_rfl) (by kernel_rfl) (by kernel_rfl) (N := 29) (by kernel_rfl) (by kernel_rfl) (by kernel_rfl) (fun _ _ _ h => h) (Or.inr ⟨by rfl, rfl⟩) (HSj.out _ Ew0) ?_
          show anyK _ _ _ _ _ _ _ _ (Act.put _ (some 29) _) _
          simp only [Act.put, List.setIfInBounds_toArray, List.set_cons_zero, List.set_cons_succ]
          refine anyK_take (i := 4) (v := undef) rfl (by kernel_rfl) (by kernel_rfl) (by kernel_rfl) (N := 29) (by kernel_rfl) (by kernel_rfl) (by kernel_rfl) (fun _ _ _ h => h) (Or.inr ⟨by rfl, rfl⟩) (HSj.out _ Ew0) ?_
          show anyK _ _ _ _ _ _ _ _ (Act.put _ (some 30) _) _
          simp only [Act.put, List.setIfInBounds_toArray, List.set_cons_zero, List.set_cons_succ]
          refine anyK_take (i := 5) (v := undef) rfl (by kernel_rfl) (by kernel_rfl) (by kernel_rfl) (N := 29) (by kernel_rfl) (by kernel_rfl) (by kernel_rfl) (fun _ _ _ h => h) (Or.inr ⟨by rfl, rfl⟩) (HSj.out _ Ew0) ?_
          show anyK _ _ _ _ _ _ _ _ (Act.put _ (some 31) _) _
          simp only [Act.put, List.setIfInBounds_toArray, List.set_cons_zero, List.set_cons_succ]
          refine anyK_take (i := 6) (v := ?_) rfl (by kernel_rfl) (by kernel_rfl) (by kernel_rfl) (N := 29) (by kernel_rfl) (by kernel_rfl) (by kernel_rfl) (fun _ _ _ h => h) (Or.inl ⟨by rfl, ?_⟩) (HSj.out _ Ew0) ?_
          rotate_left 1
          · intro w hSw
            go_simp
            try with_reducible rfl
          show anyK _ _ _ _ _ _ _ _ (Act.put _ (some 32) _) _
          simp only [Act.put, List.setIfInBounds_toArray, List.set_cons_zero, List.set_cons_succ]
          refine anyK_take (i := 7) (v := ?_) rfl (by kernel_rfl) (by kernel_rfl) (by kernel_rfl) (N := 29) (by kernel_rfl) (by kernel_rfl) (by kernel_rfl) (fun _ _ _ h => h) (Or.inl ⟨by rfl, ?_⟩) (HSj.out _ Ew0) ?_
          rotate_left 1
          · intro w hSw
            go_simp
            try with_reducible rfl
          show anyK _ _ _ _ _ _ _ _ (Act.put _ (some 33) _) _
          simp only [Act.put, List.setIfInBounds_toArray, List.set_cons_zero, List.set_cons_succ]
          refine anyK_take (i := 8) (v := ?_) rfl (by kernel_rfl) (by kernel_rfl) (by kernel_rfl) (N := 29) (by kernel_rfl) (by kernel_rfl) (by kernel_rfl) (fun _ _ _ h => h) (Or.inl ⟨by rfl, ?_⟩) (HSj.out _ Ew0) ?_
          rotate_left 1
          · intro w hSw
            go_simp
            try with_reducible rfl
          show anyK _ _ _ _ _ _ _ _ (Act.put _ (some 34) _) _
          simp only [Act.put, List.setIfInBounds_toArray, List.set_cons_zero, List.set_cons_succ]
          refine anyK_take (i := 9) (v := ?_) rfl (by kernel_rfl) (by kernel_rfl) (by kernel_rfl) (N := 29) (by kernel_rfl) (by kernel_rfl) (by kernel_rfl) (fun _ _ _ h => h) (Or.inl ⟨by rfl, ?_⟩) (HSj.out _ Ew0) ?_
          rotate_left 1
          · intro w hSw
            go_simp
            try with_reducible rfl
          show anyK _ _ _ _ _ _ _ _ (Act.put _ (some 35) _) _
          simp only [Act.put, List.setIfInBounds_toArray, List.set_cons_zero, List.set_cons_succ]
          refine anyK_take (i := 10) (v := ?_) rfl (by kernel_rfl) (by kernel_rfl) (by kernel_rfl) (N := 29) (by kernel_rfl) (by kernel_rfl) (by kernel_rfl) (fun _ _ _ h => h) (Or.inl ⟨by rfl, ?_⟩) (HSj.out _ Ew0) ?_
          rotate_left 1
          · intro w hSw
            go_simp
            try with_reducible rfl
          show anyK _ _ _ _ _ _ _ _ (Act.put _ (some 36) _) _
          simp only [Act.put, List.setIfInBounds_toArray, List.set_cons_zero, List.set_cons_succ]
          refine anyK_take (i := 11) (v := ?_) rfl (by kernel_rfl) (by kernel_rfl) (by kernel_rfl) (N := 29) (by kernel_rfl) (by kernel_rfl) (by kernel_rfl) (fun _ _ _ h => h) (Or.inl ⟨by rfl, ?_⟩) (HSj.out _ Ew0) ?_
          rotate_left 1
          · intro w hSw
            go_simp
            try with_reducible rfl
          show anyK _ _ _ _ _ _ _ _ (Act.put _ (some 37) _) _
          simp only [Act.put, List.setIfInBounds_toArray, List.set_cons_zero, List.set_cons_succ]
          refine anyK_take (i := 12) (v := undef) rfl (by kernel_rfl) (by kernel_rfl) (by kernel_rfl) (N := 29) (by kernel_rfl) (by kernel_rfl) (by kernel_rfl) (fun _ _ _ h => h) (Or.inr ⟨by rfl, rfl⟩) (HSj.out _ Ew0) ?_
          show anyK _ _ _ _ _ _ _ _ (Act.put _ (some 38) _) _
          simp only [Act.put, List.setIfInBounds_toArray, List.set_cons_zero, List.set_cons_succ]
          refine anyK_take (i := 13) (v := undef) rfl (by kernel_rfl) (by kernel_rfl) (by kernel_rfl) (N := 29) (by kernel_rfl) (by kernel_rfl) (by kernel_rfl) (fun _ _ _ h => h) (Or.inr ⟨by rfl, rfl⟩) (HSj.out _ Ew0) ?_
          show anyK _ _ _ _ _ _ _ _ (Act.put _ (some 39) _) _
          simp only [Act.put, List.setIfInBounds_toArray, List.set_cons_zero, List.set_cons_succ]
          refine anyK_take (i := 14) (v := undef) rfl (by kernel_rfl) (by kernel_rfl) (by kernel_rfl) (N := 29) (by kernel_rfl) (by kernel_rfl) (by kernel_rfl) (fun _ _ _ h => h) (Or.inr ⟨by rfl, rfl⟩) (HSj.out _ Ew0) ?_
          show anyK _ _ _ _ _ _ _ _ (Act.put _ (some 40) _) _
          simp only [Act.put, List.setIfInBounds_toArray, List.set_cons_zero, List.set_cons_succ]
          refine anyK_take (i := 15) (v := undef) rfl (by kernel_rfl) (by kernel_rfl) (by kernel_rfl) (N := 29) (by kernel_rfl) (by kernel_rfl) (by kernel_rfl) (fun _ _ _ h => h) (Or.inr ⟨by rfl, rfl⟩) (HSj.out _ Ew0) ?_
          show anyK _ _ _ _ _ _ _ _ (Act.put _ (some 41) _) _
          simp only [Act.put, List.setIfInBounds_toArray, List.set_cons_zero, List.set_cons_succ]
          refine anyK_take (i := 16) (v := undef) rfl (by kernel_rfl) (by kernel_rfl) (by kernel_rfl) (N := 29) (by kernel_rfl) (by kernel_rfl) (by kernel_rfl) (fun _ _ _ h => h) (Or.inr ⟨by rfl, rfl⟩) (HSj.out _ Ew0) ?_
          show anyK _ _ _ _ _ _ _ _ (Act.put _ (some 42) _) _
          simp only [Act.put, List.setIfInBounds_toArray, List.set_cons_zero, List.set_cons_succ]
          refine anyK_take (i := 17) (v := undef) rfl (by kernel_rfl) (by kernel_rfl) (by kernel_rfl) (N := 29) (by kernel_rfl) (by kernel_rfl) (by kernel_rfl) (fun _ _ _ h => h) (Or.inr ⟨by rfl, rfl⟩) (HSj.out _ Ew0) ?_
          show anyK _ _ _ _ _ _ _ _ (Act.put _ (some 43) _) _
          simp only [Act.put, List.setIfInBounds_toArray, List.set_cons_zero, List.set_cons_succ]
          refine anyK_take (i := 18) (v := undef) rfl (by kernel_rfl) (by kernel_rfl) (by kernel_rfl) (N := 29) (by kernel_rfl) (by kernel_rfl) (by kernel_rfl) (fun _ _ _ h => h) (Or.inr ⟨by rfl, rfl⟩) (HSj.out _ Ew0) ?_
          show anyK _ _ _ _ _ _ _ _ (Act.put _ (some 44) _) _
          simp only [Act.put, List.setIfInBounds_toArray, List.set_cons_zero, List.set_cons_succ]
          refine anyK_take (i := 19) (v := ?_) rfl (by kernel_rfl) (by kernel_rfl) (by kernel_rfl) (N := 29) (by kernel_rfl) (by kernel_rfl) (by kernel_rfl) (fun _ _ _ h => h) (Or.inl ⟨by rfl, ?_⟩) (HSj.out _ Ew0) ?_
          rotate_left 1
          · intro w hSw
            go_simp
            try with_reducible rfl
          show anyK _ _ _ _ _ _ _ _ (Act.put _ (some 45) _) _
          simp only [Act.put, List.setIfInBounds_toArray, List.set_cons_zero, List.set_cons_succ]
          refine anyK_take (i := 20) (v := ?_) rfl (by kernel_rfl) (by kernel_rfl) (by kernel_rfl) (N := 29) (by kernel_rfl) (by kernel_rfl) (by kernel_rfl) (fun _ _ _ h => h) (Or.inl ⟨by rfl, ?_⟩) (HSj.out _ Ew0) ?_
          rotate_left 1
          · intro w hSw
            go_simp
            try with_reducible rfl
          show anyK _ _ _ _ _ _ _ _ (Act.put _ (some 46) _) _
          simp only [Act.put, List.setIfInBounds_toArray, List.set_cons_zero, List.set_cons_succ]
          refine anyK_take (i := 21) (v := undef) rfl (by kernel_rfl) (by kernel_rfl) (by kernel_rfl) (N := 29) (by kernel_rfl) (by kernel_rfl) (by kernel_rfl) (fun _ _ _ h => h) (Or.inr ⟨by rfl, rfl⟩) (HSj.out _ Ew0) ?_
          show anyK _ _ _ _ _ _ _ _ (Act.put _ (some 47) _) _
          simp only [Act.put, List.setIfInBounds_toArray, List.set_cons_zero, List.set_cons_succ]
          refine anyK_take (i := 22) (v := undef) rfl (by kernel_rfl) (by kernel_rfl) (by kernel_rfl) (N := 29) (by kernel_rfl) (by kernel_rfl) (by kernel_rfl) (fun _ _ _ h => h) (Or.inr ⟨by rfl, rfl⟩) (HSj.out _ Ew0) ?_
          show anyK _ _ _ _ _ _ _ _ (Act.put _ (some 48) _) _
          simp only [Act.put, List.setIfInBounds_toArray, List.set_cons_zero, List.set_cons_succ]
          refine anyK_take (i := 23) (v := undef) rfl (by kernel_rfl) (by kernel_rfl) (by kernel_rfl) (N := 29) (by kernel_rfl) (by kernel_rfl) (by kernel_rfl) (fun _ _ _ h => h) (Or.inr ⟨by rfl, rfl⟩) (HSj.out _ Ew0) ?_
          show anyK _ _ _ _ _ _ _ _ (Act.put _ (some 49) _) _
          simp only [Act.put, List.setIfInBounds_toArray, List.set_cons_zero, List.set_cons_succ]
          refine anyK_take (i := 24) (v := undef) rfl (by kernel_rfl) (by kernel_rfl) (by kernel_rfl) (N := 29) (by kernel_rfl) (by kernel_rfl) (by kernel_rfl) (fun _ _ _ h => h) (Or.inr ⟨by rfl, rfl⟩) (HSj.out _ Ew0) ?_
          show anyK _ _ _ _ _ _ _ _ (Act.put _ (some 50) _) _
          simp only [Act.put, List.setIfInBounds_toArray, List.set_cons_zero, List.set_cons_succ]
          refine anyK_take (i := 25) (v := undef) rfl (by kernel_rfl) (by kernel_rfl) (by kernel_rfl) (N := 29) (by kernel_rfl) (by kernel_rfl) (by kernel_rfl) (fun _ _ _ h => h) (Or.inr ⟨by rfl, rfl⟩) (HSj.out _ Ew0) ?_
          show anyK _ _ _ _ _ _ _ _ (Act.put _ (some 51) _) _
          simp only [Act.put, List.setIfInBounds_toArray, List.set_cons_zero, List.set_cons_succ]
          refine anyK_take (i := 26) (v := undef) rfl (by kernel_rfl) (by kernel_rfl) (by kernel_rfl) (N := 29) (by kernel_rfl) (by kernel_rfl) (by kernel_rfl) (fun _ _ _ h => h) (Or.inr ⟨by rfl, rfl⟩) (HSj.out _ Ew0) ?_
          show anyK _ _ _ _ _ _ _ _ (Act.put _ (some 52) _) _
          simp only [Act.put, List.setIfInBounds_toArray, List.set_cons_zero, List.set_cons_succ]
          refine anyK_take (i := 27) (v := undef) rfl (by kernel_rfl) (by kernel_rfl) (by kernel_rfl) (N := 29) (by kernel_rfl) (by kernel_rfl) (by kernel_rfl) (fun _ _ _ h => h) (Or.inr ⟨by rfl, rfl⟩) (HSj.out _ Ew0) ?_
          show anyK _ _ _ _ _ _ _ _ (Act.put _ (some 53) _) _
          simp only [Act.put, List.setIfInBounds_toArray, List.set_cons_zero, List.set_cons_succ]
          refine anyK_one (i := 28) (by kernel_rfl) rfl (fun Kk hKk => ?_)
          go_wp2_with fail
          refine hKk.out _ _ (fun h => Bool.noConfusion (show true = false from h)) ?_
          clear hKk Kk
          simp only [List.setIfInBounds_toArray, List.set_cons_zero, List.set_cons_succ]
          refine anyK_done (by kernel_rfl) ?_ _
          go_wp2_with fail
          go_meet
          exact ⟨congrArg Value.bool HCn.out, Ew0⟩
        have q3 : (0 : Int) < (we : Int) := by omega
        have q3n : 0 < we := by omega
        cases qe
        · have HCn := Lib.hid (show false = C by rw [← HC2.out]; simp [disB])
          have Ew0 : Ext w4 w4.drew := Below.drew (Ext.refl _)
          refine wp_region_K 28 (fun w' => w'.cell? ⟨H, 0, none⟩ = some (.int .i64 (n : Int)) ∧ w'.cell? ⟨H, 1, none⟩ = some (.slice ao k c) ∧ w'.cell? ⟨b3, o3 + i, none⟩ = some (.string ⟨e.toArray⟩)) (by kernel_rfl) ?_
          show anyK _ _ _ _ _ _ 29 #[false, false, false, false, false, false, false, false, false, false, false, false, false, false, false, false, false, false, false, false, false, false, false, false, false, false, false, false, false] _ _
          refine anyK_take (i := 0) (v := ?_) rfl (by kernel_rfl) (by kernel_rfl) (by kernel_rfl) (N := 29) (by kernel_rfl) (by kernel_rfl) (by kernel_rfl) (fun _ _ _ h => h) (Or.inl ⟨by rfl, ?_⟩) (HSj.out _ Ew0) ?_
          rotate_left 1
          · intro w hSw
            go_simp
            try with_reducible rfl
          show anyK _ _ _ _ _ _ _ _ (Act.put _ (some 26) _) _
          simp only [Act.put, List.setIfInBounds_toArray, List.set_cons_zero, List.set_cons_succ]
          refine anyK_take (i := 1) (v := ?_) rfl (by kernel_rfl) (by kernel_rfl) (by kernel_rfl) (N := 29) (by kernel_rfl) (by kernel_rfl) (by kernel_rfl) (fun _ _ _ h => h) (Or.inl ⟨by rfl, ?_⟩) (HSj.out _ Ew0) ?_
          rotate_left 1
          · intro w hSw
            go_simp
            try with_reducible rfl
          show anyK _ _ _ _ _ _ _ _ (Act.put _ (some 27) _) _
          simp only [Act.put, List.setIfInBounds_toArray, List.set_cons_zero, List.set_cons_succ]
          refine anyK_take (i := 2) (v := ?_) rfl (by kernel_rfl) (by kernel_rfl) (by kernel_rfl) (N := 29) (by kernel_rfl) (by kernel_rfl) (by kernel_rfl) (fun _ _ _ h => h) (Or.inl ⟨by rfl, ?_⟩) (HSj.out _ Ew0) ?_
          rotate_left 1
          · intro w hSw
            go_simp
            try with_reducible rfl
          show anyK _ _ _ _ _ _ _ _ (Act.put _ (some 28) _) _
          simp only [Act.put, List.setIfInBounds_toArray, List.set_cons_zero, List.set_cons_succ]
          refine anyK_take (i := 3) (v := undef) rfl (by kernel_rfl) (by kernel_rfl) (by kernel_rfl) (N := 29) (by kernel_rfl) (by kernel_rfl) (by kernel_rfl) (fun _ _ _ h => h) (Or.inr ⟨by rfl, rfl⟩) (HSj.out _ Ew0) ?_
          show anyK _ _ _ _ _ _ _ _ (Act.put _ (some 29) _) _
          simp only [Act.put, List.setIfInBounds_toArray, List.set_cons_zero, List.set_cons_succ]
          refine anyK_take (i := 4) (v := undef) rfl (by kernel_rfl) (by kernel_rfl) (by kernel_rfl) (N := 29) (by kernel_rfl) (by kernel_rfl) (by kernel_rfl) (fun _ _ _ h => h) (Or.inr ⟨by rfl, rfl⟩) (HSj.out _ Ew0) ?_
          show anyK _ _ _ _ _ _ _ _ (Act.put _ (some 30) _) _
          simp only [Act.put, List.setIfInBounds_toArray, List.set_cons_zero, List.set_cons_succ]
          refine anyK_take (i := 5) (v := undef) rfl (by kernel_rfl) (by kernel_rfl) (by kernel_rfl) (N := 29) (by kernel_rfl) (by kernel_rfl) (by kernel_rfl) (fun _ _ _ h => h) (Or.inr ⟨by rfl, rfl⟩) (HSj.out _ Ew0) ?_
          show anyK _ _ _ _ _ _ _ _ (Act.put _ (some 31) _) _
          simp only [Act.put, List.setIfInBounds_toArray, List.set_cons_zero, List.set_cons_succ]
          refine anyK_take (i := 6) (v := ?_) rfl (by kernel_rfl) (by kernel_rfl) (by kernel_rfl) (N := 29) (by kernel_rfl) (by kernel_rfl) (by kernel_rfl) (fun _ _ _ h => h) (Or.inl ⟨by rfl, ?_⟩) (HSj.out _ Ew0) ?_
          rotate_left 1
          · intro w hSw
            go_simp
            try with_reducible rfl
          show anyK _ _ _ _ _ _ _ _ (Act.put _ (some 32) _) _
          simp only [Act.put, List.setIfInBounds_toArray, List.set_cons_zero, List.set_cons_succ]
          refine anyK_take (i := 7) (v := ?_) rfl (by kernel_rfl) (by kernel_rfl) (by kernel_rfl) (N := 29) (by kernel_rfl) (by kernel_rfl) (by kernel_rfl) (fun _ _ _ h => h) (Or.inl ⟨by rfl, ?_⟩) (HSj.out _ Ew0) ?_
          rotate_left 1
          · intro w hSw
            go_simp
            try with_reducible rfl
          show anyK _ _ _ _ _ _ _ _ (Act.put _ (some 33) _) _
          simp only [Act.put, List.setIfInBounds_toArray, List.set_cons_zero, List.set_cons_succ]
          refine anyK_take (i := 8) (v := ?_) rfl (by kernel_rfl) (by kernel_rfl) (by kernel_rfl) (N := 29) (by kernel_rfl) (by kernel_rfl) (by kernel_rfl) (fun _ _ _ h => h) (Or.inl ⟨by rfl, ?_⟩) (HSj.out _ Ew0) ?_
          rotate_left 1
          · intro w hSw
            go_simp
            try with_reducible rfl
          show anyK _ _ _ _ _ _ _ _ (Act.put _ (some 34) _) _
          simp only [Act.put, List.setIfInBounds_toArray, List.set_cons_zero, List.set_cons_succ]
          refine anyK_take (i := 9) (v := ?_) rfl (by kernel_rfl) (by kernel_rfl) (by kernel_rfl) (N := 29) (by kernel_rfl) (by kernel_rfl) (by kernel_rfl) (fun _ _ _ h => h) (Or.inl ⟨by rfl, ?_⟩) (HSj.out _ Ew0) ?_
          rotate_left 1
          · intro w hSw
            go_simp
            try with_reducible rfl
          show anyK _ _ _ _ _ _ _ _ (Act.put _ (some 35) _) _
          simp only [Act.put, List.setIfInBounds_toArray, List.set_cons_zero, List.set_cons_succ]
          refine anyK_take (i := 10) (v := ?_) rfl (by kernel_rfl) (by kernel_rfl) (by kernel_rfl) (N := 29) (by kernel_rfl) (by kernel_rfl) (by kernel_rfl) (fun _ _ _ h => h) (Or.inl ⟨by rfl, ?_⟩) (HSj.out _ Ew0) ?_
          rotate_left 1
          · intro w hSw
            go_simp
            try with_reducible rfl
          show anyK _ _ _ _ _ _ _ _ (Act.put _ (some 36) _) _
          simp only [Act.put, List.setIfInBounds_toArray, List.set_cons_zero, List.set_cons_succ]
          refine anyK_take (i := 11) (v := ?_) rfl (by kernel_rfl) (by kernel_rfl) (by kernel_rfl) (N := 29) (by kernel_rfl) (by kernel_rfl) (by kernel_rfl) (fun _ _ _ h => h) (Or.inl ⟨by rfl, ?_⟩) (HSj.out _ Ew0) ?_
          rotate_left 1
          · intro w hSw
            go_simp
            try with_reducible rfl
          show anyK _ _ _ _ _ _ _ _ (Act.put _ (some 37) _) _
          simp only [Act.put, List.setIfInBounds_toArray, List.set_cons_zero, List.set_cons_succ]
          refine anyK_take (i := 12) (v := ?_) rfl (by kernel_rfl) (by kernel_rfl) (by kernel_rfl) (N := 29) (by kernel_rfl) (by kernel_rfl) (by kernel_rfl) (fun _ _ _ h => h) (Or.inl ⟨by rfl, ?_⟩) (HSj.out _ Ew0) ?_
          rotate_left 1
          · intro w hSw
            go_simp
            try with_reducible rfl
          show anyK _ _ _ _ _ _ _ _ (Act.put _ (some 38) _) _
          simp only [Act.put, List.setIfInBounds_toArray, List.set_cons_zero, List.set_cons_succ]
          refine anyK_take (i := 13) (v := ?_) rfl (by kernel_rfl) (by kernel_rfl) (by kernel_rfl) (N := 29) (by kernel_rfl) (by kernel_rfl) (by kernel_rfl) (fun _ _ _ h => h) (Or.inl ⟨by rfl, ?_⟩) (HSj.out _ Ew0) ?_
          rotate_left 1
          · intro w hSw
            go_simp
            try with_reducible rfl
          show anyK _ _ _ _ _ _ _ _ (Act.put _ (some 39) _) _
          simp only [Act.put, List.setIfInBounds_toArray, List.set_cons_zero, List.set_cons_succ]
          refine anyK_take (i := 14) (v := ?_) rfl (by kernel_rfl) (by kernel_rfl) (by kernel_rfl) (N := 29) (by kernel_rfl) (by kernel_rfl) (by kernel_rfl) (fun _ _ _ h => h) (Or.inl ⟨by rfl, ?_⟩) (HSj.out _ Ew0) ?_
          rotate_left 1
          · intro w hSw
            go_simp
            try with_reducible rfl
          show anyK _ _ _ _ _ _ _ _ (Act.put _ (some 40) _) _
          simp only [Act.put, List.setIfInBounds_toArray, List.set_cons_zero, List.set_cons_succ]
          refine anyK_take (i := 15) (v := ?_) rfl (by kernel_rfl) (by kernel_rfl) (by kernel_rfl) (N := 29) (by kernel_rfl) (by kernel_rfl) (by kernel_rfl) (fun _ _ _ h => h) (Or.inl ⟨by rfl, ?_⟩) (HSj.out _ Ew0) ?_
          rotate_left 1
          · intro w hSw
            go_simp
            try with_reducible rfl
          show anyK _ _ _ _ _ _ _ _ (Act.put _ (some 41) _) _
          simp only [Act.put, List.setIfInBounds_toArray, List.set_cons_zero, List.set_cons_succ]
          refine anyK_take (i := 16) (v := ?_) rfl (by kernel_rfl) (by kernel_rfl) (by kernel_rfl) (N := 29) (by kernel_rfl) (by kernel_rfl) (by kernel_rfl) (fun _ _ _ h => h) (Or.inl ⟨by rfl, ?_⟩) (HSj.out _ Ew0) ?_
          rotate_left 1
          · intro w hSw
            go_simp
            try with_reducible rfl
          show anyK _ _ _ _ _ _ _ _ (Act.put _ (some 42) _) _
          simp only [Act.put, List.setIfInBounds_toArray, List.set_cons_zero, List.set_cons_succ]
          refine anyK_one (i := 17) (by kernel_rfl) rfl (fun Kk hKk => ?_)
          go_simp
          (go_at_call 15; refine (HSO.out _ Ew0).mono ?_; rintro e w8 ⟨⟨v8, rfl, hr8⟩, hx⟩)
          have Ew8 : Ext w4 w8 := Ew0.trans hx
          obtain ⟨a8, c8, rfl, hac8, hcm8, hI8, _⟩ := ints_of_own hr8
          go_wp2_with fail
          refine hKk.out _ _ (fun _ => HSj.out _ Ew8) ?_
          clear hKk Kk hx
          simp only [List.setIfInBounds_toArray, List.set_cons_zero, List.set_cons_succ]
          refine anyK_one (i := 18) (by kernel_rfl) rfl (fun Kk hKk => ?_)
          go_simp
          (go_at_call 39; refine (HQu.out a8 c8 w8 hI8).mono ?_; rintro e w9 ⟨rfl, hx⟩)
          have Ew9 : Ext w4 w9 := Ew8.trans hx
          go_wp2_with fail
          refine hKk.out _ _ (fun _ => HSj.out _ Ew9) ?_
          clear hKk Kk hx
          simp only [List.setIfInBounds_toArray, List.set_cons_zero, List.set_cons_succ]
          refine anyK_take (i := 19) (v := ?_) rfl (by kernel_rfl) (by kernel_rfl) (by kernel_rfl) (N := 29) (by kernel_rfl) (by kernel_rfl) (by kernel_rfl) (fun _ _ _ h => h) (Or.inl ⟨by rfl, ?_⟩) (HSj.out _ Ew9) ?_
          rotate_left 1
          · intro w hSw
            go_simp
            try with_reducible rfl
          show anyK _ _ _ _ _ _ _ _ (Act.put _ (some 45) _) _
          simp only [Act.put, List.setIfInBounds_toArray, List.set_cons_zero, List.set_cons_succ]
          refine anyK_take (i := 20) (v := ?_) rfl (by kernel_rfl) (by kernel_rfl) (by kernel_rfl) (N := 29) (by kernel_rfl) (by kernel_rfl) (by kernel_rfl) (fun _ _ _ h => h) (Or.inl ⟨by rfl, ?_⟩) (HSj.out _ Ew9) ?_
          rotate_left 1
          · intro w hSw
            go_simp
            try with_reducible rfl
          show anyK _ _ _ _ _ _ _ _ (Act.put _ (some 46) _) _
          simp only [Act.put, List.setIfInBounds_toArray, List.set_cons_zero, List.set_cons_succ]
          refine anyK_take (i := 21) (v := undef) rfl (by kernel_rfl) (by kernel_rfl) (by kernel_rfl) (N := 29) (by kernel_rfl) (by kernel_rfl) (by kernel_rfl) (fun _ _ _ h => h) (Or.inr ⟨by rfl, rfl⟩) (HSj.out _ Ew9) ?_
          show anyK _ _ _ _ _ _ _ _ (Act.put _ (some 47) _) _
          simp only [Act.put, List.setIfInBounds_toArray, List.set_cons_zero, List.set_cons_succ]
          refine anyK_take (i := 22) (v := undef) rfl (by kernel_rfl) (by kernel_rfl) (by kernel_rfl) (N := 29) (by kernel_rfl) (by kernel_rfl) (by kernel_rfl) (fun _ _ _ h => h) (Or.inr ⟨by rfl, rfl⟩) (HSj.out _ Ew9) ?_
          show anyK _ _ _ _ _ _ _ _ (Act.put _ (some 48) _) _
          simp only [Act.put, List.setIfInBounds_toArray, List.set_cons_zero, List.set_cons_succ]
          refine anyK_take (i := 23) (v := undef) rfl (by kernel_rfl) (by kernel_rfl) (by kernel_rfl) (N := 29) (by kernel_rfl) (by kernel_rfl) (by kernel_rfl) (fun _ _ _ h => h) (Or.inr ⟨by rfl, rfl⟩) (HSj.out _ Ew9) ?_
          show anyK _ _ _ _ _ _ _ _ (Act.put _ (some 49) _) _
          simp only [Act.put, List.setIfInBounds_toArray, List.set_cons_zero, List.set_cons_succ]
          refine anyK_take (i := 24) (v := undef) rfl (by kernel_rfl) (by kernel_rfl) (by kernel_rfl) (N := 29) (by kernel_rfl) (by kernel_rfl) (by kernel_rfl) (fun _ _ _ h => h) (Or.inr ⟨by rfl, rfl⟩) (HSj.out _ Ew9) ?_
          show anyK _ _ _ _ _ _ _ _ (Act.put _ (some 50) _) _
          simp only [Act.put, List.setIfInBounds_toArray, List.set_cons_zero, List.set_cons_succ]
          refine anyK_take (i := 25) (v := undef) rfl (by kernel_rfl) (by kernel_rfl) (by kernel_rfl) (N := 29) (by kernel_rfl) (by kernel_rfl) (by kernel_rfl) (fun _ _ _ h => h) (Or.inr ⟨by rfl, rfl⟩) (HSj.out _ Ew9) ?_
          show anyK _ _ _ _ _ _ _ _ (Act.put _ (some 51) _) _
          simp only [Act.put, List.setIfInBounds_toArray, List.set_cons_zero, List.set_cons_succ]
          refine anyK_take (i := 26) (v := undef) rfl (by kernel_rfl) (by kernel_rfl) (by kernel_rfl) (N := 29) (by kernel_rfl) (by kernel_rfl) (by kernel_rfl) (fun _ _ _ h => h) (Or.inr ⟨by rfl, rfl⟩) (HSj.out _ Ew9) ?_
          show anyK _ _ _ _ _ _ _ _ (Act.put _ (some 52) _) _
          simp only [Act.put, List.setIfInBounds_toArray, List.set_cons_zero, List.set_cons_succ]
          refine anyK_take (i := 27) (v := undef) rfl (by kernel_rfl) (by kernel_rfl) (by kernel_rfl) (N := 29) (by kernel_rfl) (by kernel_rfl) (by kernel_rfl) (fun _ _ _ h => h) (Or.inr ⟨by rfl, rfl⟩) (HSj.out _ Ew9) ?_
          show anyK _ _ _ _ _ _ _ _ (Act.put _ (some 53) _) _
          simp only [Act.put, List.setIfInBounds_toArray, List.set_cons_zero, List.set_cons_succ]
          refine anyK_one (i := 28) (by kernel_rfl) rfl (fun Kk hKk => ?_)
          go_wp2_with fail
          refine hKk.out _ _ (fun h => Bool.noConfusion (show true = false from h)) ?_
          clear hKk Kk
          simp only [List.setIfInBounds_toArray, List.set_cons_zero, List.set_cons_succ]
          refine anyK_done (by kernel_rfl) ?_ _
          go_wp2_with fail
          go_meet
          exact ⟨congrArg Value.bool HCn.out, Ew9⟩
        · have HCn := Lib.hid (show (!ge) = C by rw [← HC2.out]; have := HFi.out; simp [disB, this, q3n])
          have Ew0 : Ext w4 w4.drew := Below.drew (Ext.refl _)
          refine wp_region_K 28 (fun w' => w'.cell? ⟨H, 0, none⟩ = some (.int .i64 (n : Int)) ∧ w'.cell? ⟨H, 1, none⟩ = some (.slice ao k c) ∧ w'.cell? ⟨b3, o3 + i, none⟩ = some (.string ⟨e.toArray⟩)) (by kernel_rfl) ?_
          show anyK _ _ _ _ _ _ 29 #[false, false, false, false, false, false, false, false, false, false, false, false, false, false, false, false, false, false, false, false, false, false, false, false, false, false, false, false, false] _ _
          refine anyK_take (i := 0) (v := ?_) rfl (by kernel_rfl) (by kernel_rfl) (by kernel_rfl) (N := 29) (by kernel_rfl) (by kernel_rfl) (by kernel_rfl) (fun _ _ _ h => h) (Or.inl ⟨by rfl, ?_⟩) (HSj.out _ Ew0) ?_
          rotate_left 1
          · intro w hSw
            go_simp
            try with_reducible rfl
          show anyK _ _ _ _ _ _ _ _ (Act.put _ (some 26) _) _
          simp only [Act.put, List.setIfInBounds_toArray, List.set_cons_zero, List.set_cons_succ]
          refine anyK_take (i := 1) (v := ?_) rfl (by kernel_rfl) (by kernel_rfl) (by kernel_rfl) (N := 29) (by kernel_rfl) (by kernel_rfl) (by kernel_rfl) (fun _ _ _ h => h) (Or.inl ⟨by rfl, ?_⟩) (HSj.out _ Ew0) ?_
          rotate_left 1
          · intro w hSw
            go_simp
            try with_reducible rfl
          show anyK _ _ _ _ _ _ _ _ (Act.put _ (some 27) _) _
          simp only [Act.put, List.setIfInBounds_toArray, List.set_cons_zero, List.set_cons_succ]
          refine anyK_take (i := 2) (v := ?_) rfl (by kernel_rfl) (by kernel_rfl) (by kernel_rfl) (N := 29) (by kernel_rfl) (by kernel_rfl) (by kernel_rfl) (fun _ _ _ h => h) (Or.inl ⟨by rfl, ?_⟩) (HSj.out _ Ew0) ?_
          rotate_left 1
          · intro w hSw
            go_simp
            try with_reducible rfl
          show anyK _ _ _ _ _ _ _ _ (Act.put _ (some 28) _) _
          simp only [Act.put, List.setIfInBounds_toArray, List.set_cons_zero, List.set_cons_succ]
          refine anyK_take (i := 3) (v := undef) rfl (by kernel_rfl) (by kernel_rfl) (by kernel_rfl) (N := 29) (by kernel_rfl) (by kernel_rfl) (by kernel_rfl) (fun _ _ _ h => h) (Or.inr ⟨by rfl, rfl⟩) (HSj.out _ Ew0) ?_
          show anyK _ _ _ _ _ _ _ _ (Act.put _ (some 29) _) _
          simp only [Act.put, List.setIfInBounds_toArray, List.set_cons_zero, List.set_cons_succ]
          refine anyK_take (i := 4) (v := undef) rfl (by kernel_rfl) (by kernel_rfl) (by kernel_rfl) (N := 29) (by kernel_rfl) (by kernel_rfl) (by kernel_rfl) (fun _ _ _ h => h) (Or.inr ⟨by rfl, rfl⟩) (HSj.out _ Ew0) ?_
          show anyK _ _ _ _ _ _ _ _ (Act.put _ (some 30) _) _
          simp only [Act.put, List.setIfInBounds_toArray, List.set_cons_zero, List.set_cons_succ]
          refine anyK_take (i := 5) (v := undef) rfl (by kernel_rfl) (by kernel_rfl) (by kernel_rfl) (N := 29) (by kernel_rfl) (by kernel_rfl) (by kernel_rfl) (fun _ _ _ h => h) (Or.inr ⟨by rfl, rfl⟩) (HSj.out _ Ew0) ?_
          show anyK _ _ _ _ _ _ _ _ (Act.put _ (some 31) _) _
          simp only [Act.put, List.setIfInBounds_toArray, List.set_cons_zero, List.set_cons_succ]
          refine anyK_take (i := 6) (v := ?_) rfl (by kernel_rfl) (by kernel_rfl) (by kernel_rfl) (N := 29) (by kernel_rfl) (by kernel_rfl) (by kernel_rfl) (fun _ _ _ h => h) (Or.inl ⟨by rfl, ?_⟩) (HSj.out _ Ew0) ?_
          rotate_left 1
          · intro w hSw
            go_simp
            try with_reducible rfl
          show anyK _ _ _ _ _ _ _ _ (Act.put _ (some 32) _) _
          simp only [Act.put, List.setIfInBounds_toArray, List.set_cons_zero, List.set_cons_succ]
          refine anyK_take (i := 7) (v := ?_) rfl (by kernel_rfl) (by kernel_rfl) (by kernel_rfl) (N := 29) (by kernel_rfl) (by kernel_rfl) (by kernel_rfl) (fun _ _ _ h => h) (Or.inl ⟨by rfl, ?_⟩) (HSj.out _ Ew0) ?_
          rotate_left 1
          · intro w hSw
            go_simp
            try with_reducible rfl
          show anyK _ _ _ _ _ _ _ _ (Act.put _ (some 33) _) _
          simp only [Act.put, List.setIfInBounds_toArray, List.set_cons_zero, List.set_cons_succ]
          refine anyK_take (i := 8) (v := ?_) rfl (by kernel_rfl) (by kernel_rfl) (by kernel_rfl) (N := 29) (by kernel_rfl) (by kernel_rfl) (by kernel_rfl) (fun _ _ _ h => h) (Or.inl ⟨by rfl, ?_⟩) (HSj.out _ Ew0) ?_
          rotate_left 1
          · intro w hSw
            go_simp
            try with_reducible rfl
          show anyK _ _ _ _ _ _ _ _ (Act.put _ (some 34) _) _
          simp only [Act.put, List.setIfInBounds_toArray, List.set_cons_zero, List.set_cons_succ]
          refine anyK_take (i := 9) (v := ?_) rfl (by kernel_rfl) (by kernel_rfl) (by kernel_rfl) (N := 29) (by kernel_rfl) (by kernel_rfl) (by kernel_rfl) (fun _ _ _ h => h) (Or.inl ⟨by rfl, ?_⟩) (HSj.out _ Ew0) ?_
          rotate_left 1
          · intro w hSw
            go_simp
            try with_reducible rfl
          show anyK _ _ _ _ _ _ _ _ (Act.put _ (some 35) _) _
          simp only [Act.put, List.setIfInBounds_toArray, List.set_cons_zero, List.set_cons_succ]
          refine anyK_take (i := 10) (v := ?_) rfl (by kernel_rfl) (by kernel_rfl) (by kernel_rfl) (N := 29) (by kernel_rfl) (by kernel_rfl) (by kernel_rfl) (fun _ _ _ h => h) (Or.inl ⟨by rfl, ?_⟩) (HSj.out _ Ew0) ?_
          rotate_left 1
          · intro w hSw
            go_simp
            try with_reducible rfl
          show anyK _ _ _ _ _ _ _ _ (Act.put _ (some 36) _) _
          simp only [Act.put, List.setIfInBounds_toArray, List.set_cons_zero, List.set_cons_succ]
          refine anyK_take (i := 11) (v := ?_) rfl (by kernel_rfl) (by kernel_rfl) (by kernel_rfl) (N := 29) (by kernel_rfl) (by kernel_rfl) (by kernel_rfl) (fun _ _ _ h => h) (Or.inl ⟨by rfl, ?_⟩) (HSj.out _ Ew0) ?_
          rotate_left 1
          · intro w hSw
            go_simp
            try with_reducible rfl
          show anyK _ _ _ _ _ _ _ _ (Act.put _ (some 37) _) _
          simp only [Act.put, List.setIfInBounds_toArray, List.set_cons_zero, List.set_cons_succ]
          refine anyK_take (i := 12) (v := ?_) rfl (by kernel_rfl) (by kernel_rfl) (by kernel_rfl) (N := 29) (by kernel_rfl) (by kernel_rfl) (by kernel_rfl) (fun _ _ _ h => h) (Or.inl ⟨by rfl, ?_⟩) (HSj.out _ Ew0) ?_
          rotate_left 1
          · intro w hSw
            go_simp
            try with_reducible rfl
          show anyK _ _ _ _ _ _ _ _ (Act.put _ (some 38) _) _
          simp only [Act.put, List.setIfInBounds_toArray, List.set_cons_zero, List.set_cons_succ]
          refine anyK_take (i := 13) (v := ?_) rfl (by kernel_rfl) (by kernel_rfl) (by kernel_rfl) (N := 29) (by kernel_rfl) (by kernel_rfl) (by kernel_rfl) (fun _ _ _ h => h) (Or.inl ⟨by rfl, ?_⟩) (HSj.out _ Ew0) ?_
          rotate_left 1
          · intro w hSw
            go_simp
            try with_reducible rfl
          show anyK _ _ _ _ _ _ _ _ (Act.put _ (some 39) _) _
          simp only [Act.put, List.setIfInBounds_toArray, List.set_cons_zero, List.set_cons_succ]
          refine anyK_take (i := 14) (v := ?_) rfl (by kernel_rfl) (by kernel_rfl) (by kernel_rfl) (N := 29) (by kernel_rfl) (by kernel_rfl) (by kernel_rfl) (fun _ _ _ h => h) (Or.inl ⟨by rfl, ?_⟩) (HSj.out _ Ew0) ?_
          rotate_left 1
          · intro w hSw
            go_simp
            try with_reducible rfl
          show anyK _ _ _ _ _ _ _ _ (Act.put _ (some 40) _) _
          simp only [Act.put, List.setIfInBounds_toArray, List.set_cons_zero, List.set_cons_succ]
          refine anyK_take (i := 15) (v := ?_) rfl (by kernel_rfl) (by kernel_rfl) (by kernel_rfl) (N := 29) (by kernel_rfl) (by kernel_rfl) (by kernel_rfl) (fun _ _ _ h => h) (Or.inl ⟨by rfl, ?_⟩) (HSj.out _ Ew0) ?_
          rotate_left 1
          · intro w hSw
            go_simp
            try with_reducible rfl
          show anyK _ _ _ _ _ _ _ _ (Act.put _ (some 41) _) _
          simp only [Act.put, List.setIfInBounds_toArray, List.set_cons_zero, List.set_cons_succ]
          refine anyK_take (i := 16) (v := ?_) rfl (by kernel_rfl) (by kernel_rfl) (by kernel_rfl) (N := 29) (by kernel_rfl) (by kernel_rfl) (by kernel_rfl) (fun _ _ _ h => h) (Or.inl ⟨by rfl, ?_⟩) (HSj.out _ Ew0) ?_
          rotate_left 1
          · intro w hSw
            go_simp
            try with_reducible rfl
          show anyK _ _ _ _ _ _ _ _ (Act.put _ (some 42) _) _
          simp only [Act.put, List.setIfInBounds_toArray, List.set_cons_zero, List.set_cons_succ]
          refine anyK_one (i := 17) (by kernel_rfl) rfl (fun Kk hKk => ?_)
          go_simp
          (go_at_call 15; refine (HSO.out _ Ew0).mono ?_; rintro e w8 ⟨⟨v8, rfl, hr8⟩, hx⟩)
          have Ew8 : Ext w4 w8 := Ew0.trans hx
          obtain ⟨a8, c8, rfl, hac8, hcm8, hI8, _⟩ := ints_of_own hr8
          go_wp2_with fail
          refine hKk.out _ _ (fun _ => HSj.out _ Ew8) ?_
          clear hKk Kk hx
          simp only [List.setIfInBounds_toArray, List.set_cons_zero, List.set_cons_succ]
          refine anyK_one (i := 18) (by kernel_rfl) rfl (fun Kk hKk => ?_)
          go_simp
          (go_at_call 39; refine (HQu.out a8 c8 w8 hI8).mono ?_; rintro e w9 ⟨rfl, hx⟩)
          have Ew9 : Ext w4 w9 := Ew8.trans hx
          go_wp2_with fail
          refine hKk.out _ _ (fun _ => HSj.out _ Ew9) ?_
          clear hKk Kk hx
          simp only [List.setIfInBounds_toArray, List.set_cons_zero, List.set_cons_succ]
          refine anyK_take (i := 19) (v := ?_) rfl (by kernel_rfl) (by kernel_rfl) (by kernel_rfl) (N := 29) (by kernel_rfl) (by kernel_rfl) (by kernel_rfl) (fun _ _ _ h => h) (Or.inl ⟨by rfl, ?_⟩) (HSj.out _ Ew9) ?_
          rotate_left 1
          · intro w hSw
            go_simp
            try with_reducible rfl
          show anyK _ _ _ _ _ _ _ _ (Act.put _ (some 45) _) _
          simp only [Act.put, List.setIfInBounds_toArray, List.set_cons_zero, List.set_cons_succ]
          refine anyK_take (i := 20) (v := ?_) rfl (by kernel_rfl) (by kernel_rfl) (by kernel_rfl) (N := 29) (by kernel_rfl) (by kernel_rfl) (by kernel_rfl) (fun _ _ _ h => h) (Or.inl ⟨by rfl, ?_⟩) (HSj.out _ Ew9) ?_
          rotate_left 1
          · intro w hSw
            go_simp
            try with_reducible rfl
          show anyK _ _ _ _ _ _ _ _ (Act.put _ (some 46) _) _
          simp only [Act.put, List.setIfInBounds_toArray, List.set_cons_zero, List.set_cons_succ]
          refine anyK_take (i := 21) (v := ?_) rfl (by kernel_rfl) (by kernel_rfl) (by kernel_rfl) (N := 29) (by kernel_rfl) (by kernel_rfl) (by kernel_rfl) (fun _ _ _ h => h) (Or.inl ⟨by rfl, ?_⟩) (HSj.out _ Ew9) ?_
          rotate_left 1
          · intro w hSw
            go_simp
            try with_reducible rfl
          show anyK _ _ _ _ _ _ _ _ (Act.put _ (some 47) _) _
          simp only [Act.put, List.setIfInBounds_toArray, List.set_cons_zero, List.set_cons_succ]
          refine anyK_take (i := 22) (v := ?_) rfl (by kernel_rfl) (by kernel_rfl) (by kernel_rfl) (N := 29) (by kernel_rfl) (by kernel_rfl) (by kernel_rfl) (fun _ _ _ h => h) (Or.inl ⟨by rfl, ?_⟩) (HSj.out _ Ew9) ?_
          rotate_left 1
          · intro w hSw
            go_simp
            try with_reducible rfl
          show anyK _ _ _ _ _ _ _ _ (Act.put _ (some 48) _) _
          simp only [Act.put, List.setIfInBounds_toArray, List.set_cons_zero, List.set_cons_succ]
          refine anyK_take (i := 23) (v := ?_) rfl (by kernel_rfl) (by kernel_rfl) (by kernel_rfl) (N := 29) (by kernel_rfl) (by kernel_rfl) (by kernel_rfl) (fun _ _ _ h => h) (Or.inl ⟨by rfl, ?_⟩) (HSj.out _ Ew9) ?_
          rotate_left 1
          · intro w hSw
            go_simp
            try with_reducible rfl
          show anyK _ _ _ _ _ _ _ _ (Act.put _ (some 49) _) _
          simp only [Act.put, List.setIfInBounds_toArray, List.set_cons_zero, List.set_cons_succ]
          refine anyK_take (i := 24) (v := ?_) rfl (by kernel_rfl) (by kernel_rfl) (by kernel_rfl) (N := 29) (by kernel_rfl) (by kernel_rfl) (by kernel_rfl) (fun _ _ _ h => h) (Or.inl ⟨by rfl, ?_⟩) (HSj.out _ Ew9) ?_
          rotate_left 1
          · intro w hSw
            go_simp
            try with_reducible rfl
          show anyK _ _ _ _ _ _ _ _ (Act.put _ (some 50) _) _
          simp only [Act.put, List.setIfInBounds_toArray, List.set_cons_zero, List.set_cons_succ]
          refine anyK_take (i := 25) (v := ?_) rfl (by kernel_rfl) (by kernel_rfl) (by kernel_rfl) (N := 29) (by kernel_rfl) (by kernel_rfl) (by kernel_rfl) (fun _ _ _ h => h) (Or.inl ⟨by rfl, ?_⟩) (HSj.out _ Ew9) ?_
          rotate_left 1
          · intro w hSw
            go_simp
            try with_reducible rfl
          show anyK _ _ _ _ _ _ _ _ (Act.put _ (some 51) _) _
          simp only [Act.put, List.setIfInBounds_toArray, List.set_cons_zero, List.set_cons_succ]
          refine anyK_one (i := 26) (by kernel_rfl) rfl (fun Kk hKk => ?_)
          go_simp
          (go_at_call 40; refine (HIn.out _ Ew9).mono ?_; rintro e w10 ⟨rfl, hx⟩)
          have Ew10 : Ext w4 w10 := Ew9.trans hx
          go_wp2_with fail
          refine hKk.out _ _ (fun _ => HSj.out _ Ew10) ?_
          clear hKk Kk hx
          simp only [List.setIfInBounds_toArray, List.set_cons_zero, List.set_cons_succ]
          refine anyK_take (i := 27) (v := ?_) rfl (by kernel_rfl) (by kernel_rfl) (by kernel_rfl) (N := 29) (by kernel_rfl) (by kernel_rfl) (by kernel_rfl) (fun _ _ _ h => h) (Or.inl ⟨by rfl, ?_⟩) (HSj.out _ Ew10) ?_
          rotate_left 1
          · intro w hSw
            go_simp
            try with_reducible rfl
          show anyK _ _ _ _ _ _ _ _ (Act.put _ (some 53) _) _
          simp only [Act.put, List.setIfInBounds_toArray, List.set_cons_zero, List.set_cons_succ]
          refine anyK_one (i := 28) (by kernel_rfl) rfl (fun Kk hKk => ?_)
          go_wp2_with fail
          refine hKk.out _ _ (fun h => Bool.noConfusion (show true = false from h)) ?_
          clear hKk Kk
          simp only [List.setIfInBounds_toArray, List.set_cons_zero, List.set_cons_succ]
          refine anyK_done (by kernel_rfl) ?_ _
          go_wp2_with fail
          go_meet
          exact ⟨congrArg Value.bool HCn.out, Ew10⟩
      have t0 := bf (show ¬ (best : Int) = 0 by omega)
      by_cases hl : we < best
      · have q2 : (we : Int) < (best : Int) := by omega
        have HFi := Lib.hid (show (decide (best = 0) || decide (we < best)) = true by rw [decide_eq_true hl, Bool.or_true])
        clear hb hl
        by_cases hw0 : we = 0
        · have q3 : decide ((0 : Int) < (we : Int)) = false := decide_eq_false (by omega)
          have q3' : decide (0 < we) = false := decide_eq_false (by omega)
          have HCn := Lib.hid (show false = C by rw [← HC2.out, hw0]; simp [disB])
          clear hw0
          have Ew0 : Ext w4 w4.drew := Below.drew (Ext.refl _)
          refine wp_region_K 28 (fun w' => w'.cell? ⟨H, 0, none⟩ = some (.int .i64 (n : Int)) ∧ w'.cell? ⟨H, 1, none⟩ = some (.slice ao k c) ∧ w'.cell? ⟨b3, o3 + i, none⟩ = some (.string ⟨e.toArray⟩)) (by kernel_rfl) ?_
          show anyK _ _ _ _ _ _ 29 #[false, false, false, false, false, false, false, false, false, false, false, false, false, false, false, false, false, false, false, false, false, false, false, false, false, false, false, false, false] _ _
          refine anyK_take (i := 0) (v := ?_) rfl (by kernel_rfl) (by kernel_rfl) (by kernel_rfl) (N := 29) (by kernel_rfl) (by kernel_rfl) (by kernel_rfl) (fun _ _ _ h => h) (Or.inl ⟨by rfl, ?_⟩) (HSj.out _ Ew0) ?_
          rotate_left 1
          · intro w hSw
            go_simp
            try with_reducible rfl
          show anyK _ _ _ _ _ _ _ _ (Act.put _ (some 26) _) _
          simp only [Act.put, List.setIfInBounds_toArray, List.set_cons_zero, List.set_cons_succ]
          refine anyK_take (i := 1) (v := ?_) rfl (by kernel_rfl) (by kernel_rfl) (by kernel_rfl) (N := 29) (by kernel_rfl) (by kernel_rfl) (by kernel_rfl) (fun _ _ _ h => h) (Or.inl ⟨by rfl, ?_⟩) (HSj.out _ Ew0) ?_
          rotate_left 1
          · intro w hSw
            go_simp
            try with_reducible rfl
          show anyK _ _ _ _ _ _ _ _ (Act.put _ (some 27) _) _
          simp only [Act.put, List.setIfInBounds_toArray, List.set_cons_zero, List.set_cons_succ]
          refine anyK_take (i := 2) (v := ?_) rfl (by kernel_rfl) (by kernel_rfl) (by kernel_rfl) (N := 29) (by kernel_rfl) (by kernel_rfl) (by kernel_rfl) (fun _ _ _ h => h) (Or.inl ⟨by rfl, ?_⟩) (HSj.out _ Ew0) ?_
          rotate_left 1
          · intro w hSw
            go_simp
            try with_reducible rfl
          show anyK _ _ _ _ _ _ _ _ (Act.put _ (some 28) _) _
          simp only [Act.put, List.setIfInBounds_toArray, List.set_cons_zero, List.set_cons_succ]
          refine anyK_take (i := 3) (v := ?_) rfl (by kernel_rfl) (by kernel_rfl) (by kernel_rfl) (N := 29) (by kernel_rfl) (by kernel_rfl) (by kernel_rfl) (fun _ _ _ h => h) (Or.inl ⟨by rfl, ?_⟩) (HSj.out _ Ew0) ?_
          rotate_left 1
          · intro w hSw
            go_simp
            try with_reducible rfl
          show anyK _ _ _ _ _ _ _ _ (Act.put _ (some 29) _) _
          simp only [Act.put, List.setIfInBounds_toArray, List.set_cons_zero, List.set_cons_succ]
          refine anyK_take (i := 4) (v := ?_) rfl (by kernel_rfl) (by kernel_rfl) (by kernel_rfl) (N := 29) (by kernel_rfl) (by kernel_rfl) (by kernel_rfl) (fun _ _ _ h => h) (Or.inl ⟨by rfl, ?_⟩) (HSj.out _ Ew0) ?_
          rotate_left 1
          · intro w hSw
            go_simp
            try with_reducible rfl
          show anyK _ _ _ _ _ _ _ _ (Act.put _ (some 30) _) _
          simp only [Act.put, List.setIfInBounds_toArray, List.set_cons_zero, List.set_cons_succ]
          refine anyK_take (i := 5) (v := ?_) rfl (by kernel_rfl) (by kernel_rfl) (by kernel_rfl) (N := 29) (by kernel_rfl) (by kernel_rfl) (by kernel_rfl) (fun _ _ _ h => h) (Or.inl ⟨by rfl, ?_⟩) (HSj.out _ Ew0) ?_
          rotate_left 1
          · intro w hSw
            go_simp
            try with_reducible rfl
          show anyK _ _ _ _ _ _ _ _ (Act.put _ (some 31) _) _
          simp only [Act.put, List.setIfInBounds_toArray, List.set_cons_zero, List.set_cons_succ]
          refine anyK_take (i := 6) (v := ?_) rfl (by kernel_rfl) (by kernel_rfl) (by kernel_rfl) (N := 29) (by kernel_rfl) (by kernel_rfl) (by kernel_rfl) (fun _ _ _ h => h) (Or.inl ⟨by rfl, ?_⟩) (HSj.out _ Ew0) ?_
          rotate_left 1
          · intro w hSw
            go_simp
            try with_reducible rfl
          show anyK _ _ _ _ _ _ _ _ (Act.put _ (some 32) _) _
          simp only [Act.put, List.setIfInBounds_toArray, List.set_cons_zero, List.set_cons_succ]
          refine anyK_take (i := 7) (v := ?_) rfl (by kernel_rfl) (by kernel_rfl) (by kernel_rfl) (N := 29) (by kernel_rfl) (by kernel_rfl) (by kernel_rfl) (fun _ _ _ h => h) (Or.inl ⟨by rfl, ?_⟩) (HSj.out _ Ew0) ?_
          rotate_left 1
          · intro w hSw
            go_simp
            try with_reducible rfl
          show anyK _ _ _ _ _ _ _ _ (Act.put _ (some 33) _) _
          simp only [Act.put, List.setIfInBounds_toArray, List.set_cons_zero, List.set_cons_succ]
          refine anyK_take (i := 8) (v := ?_) rfl (by kernel_rfl) (by kernel_rfl) (by kernel_rfl) (N := 29) (by kernel_rfl) (by kernel_rfl) (by kernel_rfl) (fun _ _ _ h => h) (Or.inl ⟨by rfl, ?_⟩) (HSj.out _ Ew0) ?_
          rotate_left 1
          · intro w hSw
            go_simp
            try with_reducible rfl
          show anyK _ _ _ _ _ _ _ _ (Act.put _ (some 34) _) _
          simp only [Act.put, List.setIfInBounds_toArray, List.set_cons_zero, List.set_cons_succ]
          refine anyK_take (i := 9) (v := ?_) rfl (by kernel_rfl) (by kernel_rfl) (by kernel_rfl) (N := 29) (by kernel_rfl) (by kernel_rfl) (by kernel_rfl) (fun _ _ _ h => h) (Or.inl ⟨by rfl, ?_⟩) (HSj.out _ Ew0) ?_
          rotate_left 1
          · intro w hSw
            go_simp
            try with_reducible rfl
          show anyK _ _ _ _ _ _ _ _ (Act.put _ (some 35) _) _
          simp only [Act.put, List.setIfInBounds_toArray, List.set_cons_zero, List.set_cons_succ]
          refine anyK_take (i := 10) (v := ?_) rfl (by kernel_rfl) (by kernel_rfl) (by kernel_rfl) (N := 29) (by kernel_rfl) (by kernel_rfl) (by kernel_rfl) (fun _ _ _ h => h) (Or.inl ⟨by rfl, ?_⟩) (HSj.out _ Ew0) ?_
          rotate_left 1
          · intro w hSw
            go_simp
            try with_reducible rfl
          show anyK _ _ _ _ _ _ _ _ (Act.put _ (some 36) _) _
          simp only [Act.put, List.setIfInBounds_toArray, List.set_cons_zero, List.set_cons_succ]
          refine anyK_take (i := 11) (v := ?_) rfl (by kernel_rfl) (by kernel_rfl) (by kernel_rfl) (N := 29) (by kernel_rfl) (by kernel_rfl) (by kernel_rfl) (fun _ _ _ h => h) (Or.inl ⟨by rfl, ?_⟩) (HSj.out _ Ew0) ?_
          rotate_left 1
          · intro w hSw
            go_simp
            try with_reducible rfl
          show anyK _ _ _ _ _ _ _ _ (Act.put _ (some 37) _) _
          simp only [Act.put, List.setIfInBounds_toArray, List.set_cons_zero, List.set_cons_succ]
          refine anyK_take (i := 12) (v := undef) rfl (by kernel_rfl) (by kernel_rfl) (by kernel_rfl) (N := 29) (by kernel_rfl) (by kernel_rfl) (by kernel_rfl) (fun _ _ _ h => h) (Or.inr ⟨by rfl, rfl⟩) (HSj.out _ Ew0) ?_
          show anyK _ _ _ _ _ _ _ _ (Act.put _ (some 38) _) _
          simp only [Act.put, List.setIfInBounds_toArray, List.set_cons_zero, List.set_cons_succ]
          refine anyK_take (i := 13) (v := undef) rfl (by kernel_rfl) (by kernel_rfl) (by kernel_rfl) (N := 29) (by kernel_rfl) (by kernel_rfl) (by kernel_rfl) (fun _ _ _ h => h) (Or.inr ⟨by rfl, rfl⟩) (HSj.out _ Ew0) ?_
          show anyK _ _ _ _ _ _ _ _ (Act.put _ (some 39) _) _
          simp only [Act.put, List.setIfInBounds_toArray, List.set_cons_zero, List.set_cons_succ]
          refine anyK_take (i := 14) (v := undef) rfl (by kernel_rfl) (by kernel_rfl) (by kernel_rfl) (N := 29) (by kernel_rfl) (by kernel_rfl) (by kernel_rfl) (fun _ _ _ h => h) (Or.inr ⟨by rfl, rfl⟩) (HSj.out _ Ew0) ?_
          show anyK _ _ _ _ _ _ _ _ (Act.put _ (some 40) _) _
          simp only [Act.put, List.setIfInBounds_toArray, List.set_cons_zero, List.set_cons_succ]
          refine anyK_take (i := 15) (v := undef) rfl (by kernel_rfl) (by kernel_rfl) (by kernel_rfl) (N := 29) (by kernel_rfl) (by kernel_rfl) (by kernel_rfl) (fun _ _ _ h => h) (Or.inr ⟨by rfl, rfl⟩) (HSj.out _ Ew0) ?_
          show anyK _ _ _ _ _ _ _ _ (Act.put _ (some 41) _) _
          simp only [Act.put, List.setIfInBounds_toArray, List.set_cons_zero, List.set_cons_succ]
          refine anyK_take (i := 16) (v := undef) rfl (by kernel_rfl) (by kernel_rfl) (by kernel_rfl) (N := 29) (by kernel_rfl) (by kernel_rfl) (by kernel_rfl) (fun _ _ _ h => h) (Or.inr ⟨by rfl, rfl⟩) (HSj.out _ Ew0) ?_
          show anyK _ _ _ _ _ _ _ _ (Act.put _ (some 42) _) _
          simp only [Act.put, List.setIfInBounds_toArray, List.set_cons_zero, List.set_cons_succ]
          refine anyK_take (i := 17) (v := undef) rfl (by kernel_rfl) (by kernel_rfl) (by kernel_rfl) (N := 29) (by kernel_rfl) (by kernel_rfl) (by kernel_rfl) (fun _ _ _ h => h) (Or.inr ⟨by rfl, rfl⟩) (HSj.out _ Ew0) ?_
          show anyK _ _ _ _ _ _ _ _ (Act.put _ (some 43) _) _
          simp only [Act.put, List.setIfInBounds_toArray, List.set_cons_zero, List.set_cons_succ]
          refine anyK_take (i := 18) (v := undef) rfl (by kernel_rfl) (by kernel_rfl) (by kernel_rfl) (N := 29) (by kernel_rfl) (by kernel_rfl) (by kernel_rfl) (fun _ _ _ h => h) (Or.inr ⟨by rfl, rfl⟩) (HSj.out _ Ew0) ?_
          show anyK _ _ _ _ _ _ _ _ (Act.put _ (some 44) _) _
          simp only [Act.put, List.setIfInBounds_toArray, List.set_cons_zero, List.set_cons_succ]
          refine anyK_take (i := 19) (v := ?_) rfl (by kernel_rfl) (by kernel_rfl) (by kernel_rfl) (N := 29) (by kernel_rfl) (by kernel_rfl) (by kernel_rfl) (fun _ _ _ h => h) (Or.inl ⟨by rfl, ?_⟩) (HSj.out _ Ew0) ?_
          rotate_left 1
          · intro w hSw
            go_simp
            try with_reducible rfl
          show anyK _ _ _ _ _ _ _ _ (Act.put _ (some 45) _) _
          simp only [Act.put, List.setIfInBounds_toArray, List.set_cons_zero, List.set_cons_succ]
          refine anyK_take (i := 20) (v := ?_) rfl (by kernel_rfl) (by kernel_rfl) (by kernel_rfl) (N := 29) (by kernel_rfl) (by kernel_rfl) (by kernel_rfl) (fun _ _ _ h => h) (Or.inl ⟨by rfl, ?_⟩) (HSj.out _ Ew0) ?_
          rotate_left 1
          · intro w hSw
            go_simp
            try with_reducible rfl
          show anyK _ _ _ _ _ _ _ _ (Act.put _ (some 46) _) _
          simp only [Act.put, List.setIfInBounds_toArray, List.set_cons_zero, List.set_cons_succ]
          refine anyK_take (i := 21) (v := undef) rfl (by kernel_rfl) (by kernel_rfl) (by kernel_rfl) (N := 29) (by kernel_rfl) (by kernel_rfl) (by kernel_rfl) (fun _ _ _ h => h) (Or.inr ⟨by rfl, rfl⟩) (HSj.out _ Ew0) ?_
          show anyK _ _ _ _ _ _ _ _ (Act.put _ (some 47) _) _
          simp only [Act.put, List.setIfInBounds_toArray, List.set_cons_zero, List.set_cons_succ]
          refine anyK_take (i := 22) (v := undef) rfl (by kernel_rfl) (by kernel_rfl) (by kernel_rfl) (N := 29) (by kernel_rfl) (by kernel_rfl) (by kernel_rfl) (fun _ _ _ h => h) (Or.inr ⟨by rfl, rfl⟩) (HSj.out _ Ew0) ?_
          show anyK _ _ _ _ _ _ _ _ (Act.put _ (some 48) _) _
          simp only [Act.put, List.setIfInBounds_toArray, List.set_cons_zero, List.set_cons_succ]
          refine anyK_take (i := 23) (v := undef) rfl (by kernel_rfl) (by kernel_rfl) (by kernel_rfl) (N := 29) (by kernel_rfl) (by kernel_rfl) (by kernel_rfl) (fun _ _ _ h => h) (Or.inr ⟨by rfl, rfl⟩) (HSj.out _ Ew0) ?_
          show anyK _ _ _ _ _ _ _ _ (Act.put _ (some 49) _) _
          simp only [Act.put, List.setIfInBounds_toArray, List.set_cons_zero, List.set_cons_succ]
          refine anyK_take (i := 24) (v := undef) rfl (by kernel_rfl) (by kernel_rfl) (by kernel_rfl) (N := 29) (by kernel_rfl) (by kernel_rfl) (by kernel_rfl) (fun _ _ _ h => h) (Or.inr ⟨by rfl, rfl⟩) (HSj.out _ Ew0) ?_
          show anyK _ _ _ _ _ _ _ _ (Act.put _ (some 50) _) _
          simp only [Act.put, List.setIfInBounds_toArray, List.set_cons_zero, List.set_cons_succ]
          refine anyK_take (i := 25) (v := undef) rfl (by kernel_rfl) (by kernel_rfl) (by kernel_rfl) (N := 29) (by kernel_rfl) (by kernel_rfl) (by kernel_rfl) (fun _ _ _ h => h) (Or.inr ⟨by rfl, rfl⟩) (HSj.out _ Ew0) ?_
          show anyK _ _ _ _ _ _ _ _ (Act.put _ (some 51) _) _
          simp only [Act.put, List.setIfInBounds_toArray, List.set_cons_zero, List.set_cons_succ]
          refine anyK_take (i := 26) (v := undef) rfl (by kernel_rfl) (by kernel_rfl) (by kernel_rfl) (N := 29) (by kernel_rfl) (by kernel_rfl) (by kernel_rfl) (fun _ _ _ h => h) (Or.inr ⟨by rfl, rfl⟩) (HSj.out _ Ew0) ?_
          show anyK _ _ _ _ _ _ _ _ (Act.put _ (some 52) _) _
          simp only [Act.put, List.setIfInBounds_toArray, List.set_cons_zero, List.set_cons_succ]
          refine anyK_take (i := 27) (v := undef) rfl (by kernel_rfl) (by kernel_rfl) (by kernel_rfl) (N := 29) (by kernel_rfl) (by kernel_rfl) (by kernel_rfl) (fun _ _ _ h => h) (Or.inr ⟨by rfl, rfl⟩) (HSj.out _ Ew0) ?_
          show anyK _ _ _ _ _ _ _ _ (Act.put _ (some 53) _) _
          simp only [Act.put, List.setIfInBounds_toArray, List.set_cons_zero, List.set_cons_succ]
          refine anyK_one (i := 28) (by kernel_rfl) rfl (fun Kk hKk => ?_)
          go_wp2_with fail
          refine hKk.out _ _ (fun h => Bool.noConfusion (show true = false from h)) ?_
          clear hKk Kk
          simp only [List.setIfInBounds_toArray, List.set_cons_zero, List.set_cons_succ]
          refine anyK_done (by kernel_rfl) ?_ _
          go_wp2_with fail
          go_meet
          exact ⟨congrArg Value.bool HCn.out, Ew0⟩
        have q3 : (0 : Int) < (we : Int) := by omega
        have q3n : 0 < we := by omega
        cases qe
        · have HCn := Lib.hid (show false = C by rw [← HC2.out]; simp [disB])
          have Ew0 : Ext w4 w4.drew := Below.drew (Ext.refl _)
          refine wp_region_K 28 (fun w' => w'.cell? ⟨H, 0, none⟩ = some (.int .i64 (n : Int)) ∧ w'.cell? ⟨H, 1, none⟩ = some (.slice ao k c) ∧ w'.cell? ⟨b3, o3 + i, none⟩ = some (.string ⟨e.toArray⟩)) (by kernel_rfl) ?_
          show anyK _ _ _ _ _ _ 29 #[false, false, false, false, false, false, false, false, false, false, false, false, false, false, false, false, false, false, false, false, false, false, false, false, false, false, false, false, false] _ _
          refine anyK_take (i := 0) (v := ?_) rfl (by kernel_rfl) (by kernel_rfl) (by kernel_rfl) (N := 29) (by kernel_rfl) (by kernel_rfl) (by kernel_rfl) (fun _ _ _ h => h) (Or.inl ⟨by rfl, ?_⟩) (HSj.out _ Ew0) ?_
          rotate_left 1
          · intro w hSw
            go_simp
            try with_reducible rfl
          show anyK _ _ _ _ _ _ _ _ (Act.put _ (some 26) _) _
          simp only [Act.put, List.setIfInBounds_toArray, List.set_cons_zero, List.set_cons_succ]
          refine anyK_take (i := 1) (v := ?_) rfl (by kernel_rfl) (by kernel_rfl) (by kernel_rfl) (N := 29) (by kernel_rfl) (by kernel_rfl) (by kernel_rfl) (fun _ _ _ h => h) (Or.inl ⟨by rfl, ?_⟩) (HSj.out _ Ew0) ?_
          rotate_left 1
          · intro w hSw
            go_simp
            try with_reducible rfl
          show anyK _ _ _ _ _ _ _ _ (Act.put _ (some 27) _) _
          simp only [Act.put, List.setIfInBounds_toArray, List.set_cons_zero, List.set_cons_succ]
          refine anyK_take (i := 2) (v := ?_) rfl (by kernel_rfl) (by kernel_rfl) (by kernel_rfl) (N := 29) (by kernel_rfl) (by kernel_rfl) (by kernel_rfl) (fun _ _ _ h => h) (Or.inl ⟨by rfl, ?_⟩) (HSj.out _ Ew0) ?_
          rotate_left 1
          · intro w hSw
            go_simp
            try with_reducible rfl
          show anyK _ _ _ _ _ _ _ _ (Act.put _ (some 28) _) _
          simp only [Act.put, List.setIfInBounds_toArray, List.set_cons_zero, List.set_cons_succ]
          refine anyK_take (i := 3) (v := ?_) rfl (by kernel_rfl) (by kernel_rfl) (by kernel_rfl) (N := 29) (by kernel_rfl) (by kernel_rfl) (by kernel_rfl) (fun _ _ _ h => h) (Or.inl ⟨by rfl, ?_⟩) (HSj.out _ Ew0) ?_
          rotate_left 1
          · intro w hSw
            go_simp
            try with_reducible rfl
          show anyK _ _ _ _ _ _ _ _ (Act.put _ (some 29) _) _
          simp only [Act.put, List.setIfInBounds_toArray, List.set_cons_zero, List.set_cons_succ]
          refine anyK_take (i := 4) (v := ?_) rfl (by kernel_rfl) (by kernel_rfl) (by kernel_rfl) (N := 29) (by kernel_rfl) (by kernel_rfl) (by kernel_rfl) (fun _ _ _ h => h) (Or.inl ⟨by rfl, ?_⟩) (HSj.out _ Ew0) ?_
          rotate_left 1
          · intro w hSw
            go_simp
            try with_reducible rfl
          show anyK _ _ _ _ _ _ _ _ (Act.put _ (some 30) _) _
          simp only [Act.put, List.setIfInBounds_toArray, List.set_cons_zero, List.set_cons_succ]
          refine anyK_take (i := 5) (v := ?_) rfl (by kernel_rfl) (by kernel_rfl) (by kernel_rfl) (N := 29) (by kernel_rfl) (by kernel_rfl) (by kernel_rfl) (fun _ _ _ h => h) (Or.inl ⟨by rfl, ?_⟩) (HSj.out _ Ew0) ?_
          rotate_left 1
          · intro w hSw
            go_simp
            try with_reducible rfl
          show anyK _ _ _ _ _ _ _ _ (Act.put _ (some 31) _) _
          simp only [Act.put, List.setIfInBounds_toArray, List.set_cons_zero, List.set_cons_succ]
          refine anyK_take (i := 6) (v := ?_) rfl (by kernel_rfl) (by kernel_rfl) (by kernel_rfl) (N := 29) (by kernel_rfl) (by kernel_rfl) (by kernel_rfl) (fun _ _ _ h => h) (Or.inl ⟨by rfl, ?_⟩) (HSj.out _ Ew0) ?_
          rotate_left 1
          · intro w hSw
            go_simp
            try with_reducible rfl
          show anyK _ _ _ _ _ _ _ _ (Act.put _ (some 32) _) _
          simp only [Act.put, List.setIfInBounds_toArray, List.set_cons_zero, List.set_cons_succ]
          refine anyK_take (i := 7) (v := ?_) rfl (by kernel_rfl) (by kernel_rfl) (by kernel_rfl) (N := 29) (by kernel_rfl) (by kernel_rfl) (by kernel_rfl) (fun _ _ _ h => h) (Or.inl ⟨by rfl, ?_⟩) (HSj.out _ Ew0) ?_
          rotate_left 1
          · intro w hSw
            go_simp
            try with_reducible rfl
          show anyK _ _ _ _ _ _ _ _ (Act.put _ (some 33) _) _
          simp only [Act.put, List.setIfInBounds_toArray, List.set_cons_zero, List.set_cons_succ]
          refine anyK_take (i := 8) (v := ?_) rfl (by kernel_rfl) (by kernel_rfl) (by kernel_rfl) (N := 29) (by kernel_rfl) (by kernel_rfl) (by kernel_rfl) (fun _ _ _ h => h) (Or.inl ⟨by rfl, ?_⟩) (HSj.out _ Ew0) ?_
          rotate_left 1
          · intro w hSw
            go_simp
            try with_reducible rfl
          show anyK _ _ _ _ _ _ _ _ (Act.put _ (some 34) _) _
          simp only [Act.put, List.setIfInBounds_toArray, List.set_cons_zero, List.set_cons_succ]
          refine anyK_take (i := 9) (v := ?_) rfl (by kernel_rfl) (by kernel_rfl) (by kernel_rfl) (N := 29) (by kernel_rfl) (by kernel_rfl) (by kernel_rfl) (fun _ _ _ h => h) (Or.inl ⟨by rfl, ?_⟩) (HSj.out _ Ew0) ?_
          rotate_left 1
          · intro w hSw
            go_simp
            try with_reducible rfl
          show anyK _ _ _ _ _ _ _ _ (Act.put _ (some 35) _) _
          simp only [Act.put, List.setIfInBounds_toArray, List.set_cons_zero, List.set_cons_succ]
          refine anyK_take (i := 10) (v := ?_) rfl (by kernel_rfl) (by kernel_rfl) (by kernel_rfl) (N := 29) (by kernel_rfl) (by kernel_rfl) (by kernel_rfl) (fun _ _ _ h => h) (Or.inl ⟨by rfl, ?_⟩) (HSj.out _ Ew0) ?_
          rotate_left 1
          · intro w hSw
            go_simp
            try with_reducible rfl
          show anyK _ _ _ _ _ _ _ _ (Act.put _ (some 36) _) _
          simp only [Act.put, List.setIfInBounds_toArray, List.set_cons_zero, List.set_cons_succ]
          refine anyK_take (i := 11) (v := ?_) rfl (by kernel_rfl) (by kernel_rfl) (by kernel_rfl) (N := 29) (by kernel_rfl) (by kernel_rfl) (by kernel_rfl) (fun _ _ _ h => h) (Or.inl ⟨by rfl, ?_⟩) (HSj.out _ Ew0) ?_
          rotate_left 1
          · intro w hSw
            go_simp
            try with_reducible rfl
          show anyK _ _ _ _ _ _ _ _ (Act.put _ (some 37) _) _
          simp only [Act.put, List.setIfInBounds_toArray, List.set_cons_zero, List.set_cons_succ]
          refine anyK_take (i := 12) (v := ?_) rfl (by kernel_rfl) (by kernel_rfl) (by kernel_rfl) (N := 29) (by kernel_rfl) (by kernel_rfl) (by kernel_rfl) (fun _ _ _ h => h) (Or.inl ⟨by rfl, ?_⟩) (HSj.out _ Ew0) ?_
          rotate_left 1
          · intro w hSw
            go_simp
            try with_reducible rfl
          show anyK _ _ _ _ _ _ _ _ (Act.put _ (some 38) _) _
          simp only [Act.put, List.setIfInBounds_toArray, List.set_cons_zero, List.set_cons_succ]
          refine anyK_take (i := 13) (v := ?_) rfl (by kernel_rfl) (by kernel_rfl) (by kernel_rfl) (N := 29) (by kernel_rfl) (by kernel_rfl) (by kernel_rfl) (fun _ _ _ h => h) (Or.inl ⟨by rfl, ?_⟩) (HSj.out _ Ew0) ?_
          rotate_left 1
          · intro w hSw
            go_simp
            try with_reducible rfl
          show anyK _ _ _ _ _ _ _ _ (Act.put _ (some 39) _) _
          simp only [Act.put, List.setIfInBounds_toArray, List.set_cons_zero, List.set_cons_succ]
          refine anyK_take (i := 14) (v := ?_) rfl (by kernel_rfl) (by kernel_rfl) (by kernel_rfl) (N := 29) (by kernel_rfl) (by kernel_rfl) (by kernel_rfl) (fun _ _ _ h => h) (Or.inl ⟨by rfl, ?_⟩) (HSj.out _ Ew0) ?_
          rotate_left 1
          · intro w hSw
            go_simp
            try with_reducible rfl
          show anyK _ _ _ _ _ _ _ _ (Act.put _ (some 40) _) _
          simp only [Act.put, List.setIfInBounds_toArray, List.set_cons_zero, List.set_cons_succ]
          refine anyK_take (i := 15) (v := ?_) rfl (by kernel_rfl) (by kernel_rfl) (by kernel_rfl) (N := 29) (by kernel_rfl) (by kernel_rfl) (by kernel_rfl) (fun _ _ _ h => h) (Or.inl ⟨by rfl, ?_⟩) (HSj.out _ Ew0) ?_
          rotate_left 1
          · intro w hSw
            go_simp
            try with_reducible rfl
          show anyK _ _ _ _ _ _ _ _ (Act.put _ (some 41) _) _
          simp only [Act.put, List.setIfInBounds_toArray, List.set_cons_zero, List.set_cons_succ]
          refine anyK_take (i := 16) (v := ?_) rfl (by kernel_rfl) (by kernel_rfl) (by kernel_rfl) (N := 29) (by kernel_rfl) (by kernel_rfl) (by kernel_rfl) (fun _ _ _ h => h) (Or.inl ⟨by rfl, ?_⟩) (HSj.out _ Ew0) ?_
          rotate_left 1
          · intro w hSw
            go_simp
            try with_reducible rfl
          show anyK _ _ _ _ _ _ _ _ (Act.put _ (some 42) _) _
          simp only [Act.put, List.setIfInBounds_toArray, List.set_cons_zero, List.set_cons_succ]
          refine anyK_one (i := 17) (by kernel_rfl) rfl (fun Kk hKk => ?_)
          go_simp
          (go_at_call 15; refine (HSO.out _ Ew0).mono ?_; rintro e w8 ⟨⟨v8, rfl, hr8⟩, hx⟩)
          have Ew8 : Ext w4 w8 := Ew0.trans hx
          obtain ⟨a8, c8, rfl, hac8, hcm8, hI8, _⟩ := ints_of_own hr8
          go_wp2_with fail
          refine hKk.out _ _ (fun _ => HSj.out _ Ew8) ?_
          clear hKk Kk hx
          simp only [List.setIfInBounds_toArray, List.set_cons_zero, List.set_cons_succ]
          refine anyK_one (i := 18) (by kernel_rfl) rfl (fun Kk hKk => ?_)
          go_simp
          (go_at_call 39; refine (HQu.out a8 c8 w8 hI8).mono ?_; rintro e w9 ⟨rfl, hx⟩)
          have Ew9 : Ext w4 w9 := Ew8.trans hx
          go_wp2_with fail
          refine hKk.out _ _ (fun _ => HSj.out _ Ew9) ?_
          clear hKk Kk hx
          simp only [List.setIfInBounds_toArray, List.set_cons_zero, List.set_cons_succ]
          refine anyK_take (i := 19) (v := ?_) rfl (by kernel_rfl) (by kernel_rfl) (by kernel_rfl) (N := 29) (by kernel_rfl) (by kernel_rfl) (by kernel_rfl) (fun _ _ _ h => h) (Or.inl ⟨by rfl, ?_⟩) (HSj.out _ Ew9) ?_
          rotate_left 1
          · intro w hSw
            go_simp
            try with_reducible rfl
          show anyK _ _ _ _ _ _ _ _ (Act.put _ (some 45) _) _
          simp only [Act.put, List.setIfInBounds_toArray, List.set_cons_zero, List.set_cons_succ]
          refine anyK_take (i := 20) (v := ?_) rfl (by kernel_rfl) (by kernel_rfl) (by kernel_rfl) (N := 29) (by kernel_rfl) (by kernel_rfl) (by kernel_rfl) (fun _ _ _ h => h) (Or.inl ⟨by rfl, ?_⟩) (HSj.out _ Ew9) ?_
          rotate_left 1
          · intro w hSw
            go_simp
            try with_reducible rfl
          show anyK _ _ _ _ _ _ _ _ (Act.put _ (some 46) _) _
          simp only [Act.put, List.setIfInBounds_toArray, List.set_cons_zero, List.set_cons_succ]
          refine anyK_take (i := 21) (v := undef) rfl (by kernel_rfl) (by kernel_rfl) (by kernel_rfl) (N := 29) (by kernel_rfl) (by kernel_rfl) (by kernel_rfl) (fun _ _ _ h => h) (Or.inr ⟨by rfl, rfl⟩) (HSj.out _ Ew9) ?_
          show anyK _ _ _ _ _ _ _ _ (Act.put _ (some 47) _) _
          simp only [Act.put, List.setIfInBounds_toArray, List.set_cons_zero, List.set_cons_succ]
          refine anyK_take (i := 22) (v := undef) rfl (by kernel_rfl) (by kernel_rfl) (by kernel_rfl) (N := 29) (by kernel_rfl) (by kernel_rfl) (by kernel_rfl) (fun _ _ _ h => h) (Or.inr ⟨by rfl, rfl⟩) (HSj.out _ Ew9) ?_
          show anyK _ _ _ _ _ _ _ _ (Act.put _ (some 48) _) _
          simp only [Act.put, List.setIfInBounds_toArray, List.set_cons_zero, List.set_cons_succ]
          refine anyK_take (i := 23) (v := undef) rfl (by kernel_rfl) (by kernel_rfl) (by kernel_rfl) (N := 29) (by kernel_rfl) (by kernel_rfl) (by kernel_rfl) (fun _ _ _ h => h) (Or.inr ⟨by rfl, rfl⟩) (HSj.out _ Ew9) ?_
          show anyK _ _ _ _ _ _ _ _ (Act.put _ (some 49) _) _
          simp only [Act.put, List.setIfInBounds_toArray, List.set_cons_zero, List.set_cons_succ]
          refine anyK_take (i := 24) (v := undef) rfl (by kernel_rfl) (by kernel_rfl) (by kernel_rfl) (N := 29) (by kernel_rfl) (by kernel_rfl) (by kernel_rfl) (fun _ _ _ h => h) (Or.inr ⟨by rfl, rfl⟩) (HSj.out _ Ew9) ?_
          show anyK _ _ _ _ _ _ _ _ (Act.put _ (some 50) _) _
          simp only [Act.put, List.setIfInBounds_toArray, List.set_cons_zero, List.set_cons_succ]
          refine anyK_take (i := 25) (v := undef) rfl (by kernel_rfl) (by kernel_rfl) (by kernel_rfl) (N := 29) (by kernel_rfl) (by kernel_rfl) (by kernel_rfl) (fun _ _ _ h => h) (Or.inr ⟨by rfl, rfl⟩) (HSj.out _ Ew9) ?_
          show anyK _ _ _ _ _ _ _ _ (Act.put _ (some 51) _) _
          simp only [Act.put, List.setIfInBounds_toArray, List.set_cons_zero, List.set_cons_succ]
          refine anyK_take (i := 26) (v := undef) rfl (by kernel_rfl) (by kernel_rfl) (by kernel_rfl) (N := 29) (by kernel_rfl) (by kernel_rfl) (by kernel_rfl) (fun _ _ _ h => h) (Or.inr ⟨by rfl, rfl⟩) (HSj.out _ Ew9) ?_
          show anyK _ _ _ _ _ _ _ _ (Act.put _ (some 52) _) _
          simp only [Act.put, List.setIfInBounds_toArray, List.set_cons_zero, List.set_cons_succ]
          refine anyK_take (i := 27) (v := undef) rfl (by kernel_rfl) (by kernel_rfl) (by kernel_rfl) (N := 29) (by kernel_rfl) (by kernel_rfl) (by kernel_rfl) (fun _ _ _ h => h) (Or.inr ⟨by rfl, rfl⟩) (HSj.out _ Ew9) ?_
          show anyK _ _ _ _ _ _ _ _ (Act.put _ (some 53) _) _
          simp only [Act.put, List.setIfInBounds_toArray, List.set_cons_zero, List.set_cons_succ]
          refine anyK_one (i := 28) (by kernel_rfl) rfl (fun Kk hKk => ?_)
          go_wp2_with fail
          refine hKk.out _ _ (fun h => Bool.noConfusion (show true = false from h)) ?_
          clear hKk Kk
          simp only [List.setIfInBounds_toArray, List.set_cons_zero, List.set_cons_succ]
          refine anyK_done (by kernel_rfl) ?_ _
          go_wp2_with fail
          go_meet
          exact ⟨congrArg Value.bool HCn.out, Ew9⟩
        · have HCn := Lib.hid (show (!ge) = C by rw [← HC2.out]; have := HFi.out; simp [disB, this, q3n])
          have Ew0 : Ext w4 w4.drew := Below.drew (Ext.refl _)
          refine wp_region_K 28 (fun w' => w'.cell? ⟨H, 0, none⟩ = some (.int .i64 (n : Int)) ∧ w'.cell? ⟨H, 1, none⟩ = some (.slice ao k c) ∧ w'.cell? ⟨b3, o3 + i, none⟩ = some (.string ⟨e.toArray⟩)) (by kernel_rfl) ?_
          show anyK _ _ _ _ _ _ 29 #[false, false, false, false, false, false, false, false, false, false, false, false, false, false, false, false, false, false, false, false, false, false, false, false, false, false, false, false, false] _ _
          refine anyK_take (i := 0) (v := ?_) rfl (by kernel_rfl) (by kernel_rfl) (by kernel_rfl) (N := 29) (by kernel_rfl) (by kernel_rfl) (by kernel_rfl) (fun _ _ _ h => h) (Or.inl ⟨by rfl, ?_⟩) (HSj.out _ Ew0) ?_
          rotate_left 1
          · intro w hSw
            go_simp
            try with_reducible rfl
          show anyK _ _ _ _ _ _ _ _ (Act.put _ (some 26) _) _
          simp only [Act.put, List.setIfInBounds_toArray, List.set_cons_zero, List.set_cons_succ]
          refine anyK_take (i := 1) (v := ?_) rfl (by kernel_rfl) (by kernel_rfl) (by kernel_rfl) (N := 29) (by kernel_rfl) (by kernel_rfl) (by kernel_rfl) (fun _ _ _ h => h) (Or.inl ⟨by rfl, ?_⟩) (HSj.out _ Ew0) ?_
          rotate_left 1
          · intro w hSw
            go_simp
            try with_reducible rfl
          show anyK _ _ _ _ _ _ _ _ (Act.put _ (some 27) _) _
          simp only [Act.put, List.setIfInBounds_toArray, List.set_cons_zero, List.set_cons_succ]
          refine anyK_take (i := 2) (v := ?_) rfl (by kernel_rfl) (by kernel_rfl) (by kernel_rfl) (N := 29) (by kernel_rfl) (by kernel_rfl) (by kernel_rfl) (fun _ _ _ h => h) (Or.inl ⟨by rfl, ?_⟩) (HSj.out _ Ew0) ?_
          rotate_left 1
          · intro w hSw
            go_simp
            try with_reducible rfl
          show anyK _ _ _ _ _ _ _ _ (Act.put _ (some 28) _) _
          simp only [Act.put, List.setIfInBounds_toArray, List.set_cons_zero, List.set_cons_succ]
          refine anyK_take (i := 3) (v := ?_) rfl (by kernel_rfl) (by kernel_rfl) (by kernel_rfl) (N := 29) (by kernel_rfl) (by kernel_rfl) (by kernel_rfl) (fun _ _ _ h => h) (Or.inl ⟨by rfl, ?_⟩) (HSj.out _ Ew0) ?_
          rotate_left 1
          · intro w hSw
            go_simp
            try with_reducible rfl
          show anyK _ _ _ _ _ _ _ _ (Act.put _ (some 29) _) _
          simp only [Act.put, List.setIfInBounds_toArray, List.set_cons_zero, List.set_cons_succ]
          refine anyK_take (i := 4) (v := ?_) rfl (by kernel_rfl) (by kernel_rfl) (by kernel_rfl) (N := 29) (by kernel_rfl) (by kernel_rfl) (by kernel_rfl) (fun _ _ _ h => h) (Or.inl ⟨by rfl, ?_⟩) (HSj.out _ Ew0) ?_
          rotate_left 1
          · intro w hSw
            go_simp
            try with_reducible rfl
          show anyK _ _ _ _ _ _ _ _ (Act.put _ (some 30) _) _
          simp only [Act.put, List.setIfInBounds_toArray, List.set_cons_zero, List.set_cons_succ]
          refine anyK_take (i := 5) (v := ?_) rfl (by kernel_rfl) (by kernel_rfl) (by kernel_rfl) (N := 29) (by kernel_rfl) (by kernel_rfl) (by kernel_rfl) (fun _ _ _ h => h) (Or.inl ⟨by rfl, ?_⟩) (HSj.out _ Ew0) ?_
          rotate_left 1
          · intro w hSw
            go_simp
            try with_reducible rfl
          show anyK _ _ _ _ _ _ _ _ (Act.put _ (some 31) _) _
          simp only [Act.put, List.setIfInBounds_toArray, List.set_cons_zero, List.set_cons_succ]
          refine anyK_take (i := 6) (v := ?_) rfl (by kernel_rfl) (by kernel_rfl) (by kernel_rfl) (N := 29) (by kernel_rfl) (by kernel_rfl) (by kernel_rfl) (fun _ _ _ h => h) (Or.inl ⟨by rfl, ?_⟩) (HSj.out _ Ew0) ?_
          rotate_left 1
          · intro w hSw
            go_simp
            try with_reducible rfl
          show anyK _ _ _ _ _ _ _ _ (Act.put _ (some 32) _) _
          simp only [Act.put, List.setIfInBounds_toArray, List.set_cons_zero, List.set_cons_succ]
          refine anyK_take (i := 7) (v := ?_) rfl (by kernel_rfl) (by kernel_rfl) (by kernel_rfl) (N := 29) (by kernel_rfl) (by kernel_rfl) (by kernel_rfl) (fun _ _ _ h => h) (Or.inl ⟨by rfl, ?_⟩) (HSj.out _ Ew0) ?_
          rotate_left 1
          · intro w hSw
            go_simp
            try with_reducible rfl
          show anyK _ _ _ _ _ _ _ _ (Act.put _ (some 33) _) _
          simp only [Act.put, List.setIfInBounds_toArray, List.set_cons_zero, List.set_cons_succ]
          refine anyK_take (i := 8) (v := ?_) rfl (by kernel_rfl) (by kernel_rfl) (by kernel_rfl) (N := 29) (by kernel_rfl) (by kernel_rfl) (by kernel_rfl) (fun _ _ _ h => h) (Or.inl ⟨by rfl, ?_⟩) (HSj.out _ Ew0) ?_
          rotate_left 1
          · intro w hSw
            go_simp
            try with_reducible rfl
          show anyK _ _ _ _ _ _ _ _ (Act.put _ (some 34) _) _
          simp only [Act.put, List.setIfInBounds_toArray, List.set_cons_zero, List.set_cons_succ]
          refine anyK_take (i := 9) (v := ?_) rfl (by kernel_rfl) (by kernel_rfl) (by kernel_rfl) (N := 29) (by kernel_rfl) (by kernel_rfl) (by kernel_rfl) (fun _ _ _ h => h) (Or.inl ⟨by rfl, ?_⟩) (HSj.out _ Ew0) ?_
          rotate_left 1
          · intro w hSw
            go_simp
            try with_reducible rfl
          show anyK _ _ _ _ _ _ _ _ (Act.put _ (some 35) _) _
          simp only [Act.put, List.setIfInBounds_toArray, List.set_cons_zero, List.set_cons_succ]
          refine anyK_take (i := 10) (v := ?_) rfl (by kernel_rfl) (by kernel_rfl) (by kernel_rfl) (N := 29) (by kernel_rfl) (by kernel_rfl) (by kernel_rfl) (fun _ _ _ h => h) (Or.inl ⟨by rfl, ?_⟩) (HSj.out _ Ew0) ?_
          rotate_left 1
          · intro w hSw
            go_simp
            try with_reducible rfl
          show anyK _ _ _ _ _ _ _ _ (Act.put _ (some 36) _) _
          simp only [Act.put, List.setIfInBounds_toArray, List.set_cons_zero, List.set_cons_succ]
          refine anyK_take (i := 11) (v := ?_) rfl (by kernel_rfl) (by kernel_rfl) (by kernel_rfl) (N := 29) (by kernel_rfl) (by kernel_rfl) (by kernel_rfl) (fun _ _ _ h => h) (Or.inl ⟨by rfl, ?_⟩) (HSj.out _ Ew0) ?_
          rotate_left 1
          · intro w hSw
            go_simp
            try with_reducible rfl
          show anyK _ _ _ _ _ _ _ _ (Act.put _ (some 37) _) _
          simp only [Act.put, List.setIfInBounds_toArray, List.set_cons_zero, List.set_cons_succ]
          refine anyK_take (i := 12) (v := ?_) rfl (by kernel_rfl) (by kernel_rfl) (by kernel_rfl) (N := 29) (by kernel_rfl) (by kernel_rfl) (by kernel_rfl) (fun _ _ _ h => h) (Or.inl ⟨by rfl, ?_⟩) (HSj.out _ Ew0) ?_
          rotate_left 1
          · intro w hSw
            go_simp
            try with_reducible rfl
          show anyK _ _ _ _ _ _ _ _ (Act.put _ (some 38) _) _
          simp only [Act.put, List.setIfInBounds_toArray, List.set_cons_zero, List.set_cons_succ]
          refine anyK_take (i := 13) (v := ?_) rfl (by kernel_rfl) (by kernel_rfl) (by kernel_rfl) (N := 29) (by kernel_rfl) (by kernel_rfl) (by kernel_rfl) (fun _ _ _ h => h) (Or.inl ⟨by rfl, ?_⟩) (HSj.out _ Ew0) ?_
          rotate_left 1
          · intro w hSw
            go_simp
            try with_reducible rfl
          show anyK _ _ _ _ _ _ _ _ (Act.put _ (some 39) _) _
          simp only [Act.put, List.setIfInBounds_toArray, List.set_cons_zero, List.set_cons_succ]
          refine anyK_take (i := 14) (v := ?_) rfl (by kernel_rfl) (by kernel_rfl) (by kernel_rfl) (N := 29) (by kernel_rfl) (by kernel_rfl) (by kernel_rfl) (fun _ _ _ h => h) (Or.inl ⟨by rfl, ?_⟩) (HSj.out _ Ew0) ?_
          rotate_left 1
          · intro w hSw
            go_simp
            try with_reducible rfl
          show anyK _ _ _ _ _ _ _ _ (Act.put _ (some 40) _) _
          simp only [Act.put, List.setIfInBounds_toArray, List.set_cons_zero, List.set_cons_succ]
          refine anyK_take (i := 15) (v := ?_) rfl (by kernel_rfl) (by kernel_rfl) (by kernel_rfl) (N := 29) (by kernel_rfl) (by kernel_rfl) (by kernel_rfl) (fun _ _ _ h => h) (Or.inl ⟨by rfl, ?_⟩) (HSj.out _ Ew0) ?_
          rotate_left 1
          · intro w hSw
            go_simp
            try with_reducible rfl
          show anyK _ _ _ _ _ _ _ _ (Act.put _ (some 41) _) _
          simp only [Act.put, List.setIfInBounds_toArray, List.set_cons_zero, List.set_cons_succ]
          refine anyK_take (i := 16) (v := ?_) rfl (by kernel_rfl) (by kernel_rfl) (by kernel_rfl) (N := 29) (by kernel_rfl) (by kernel_rfl) (by kernel_rfl) (fun _ _ _ h => h) (Or.inl ⟨by rfl, ?_⟩) (HSj.out _ Ew0) ?_
          rotate_left 1
          · intro w hSw
            go_simp
            try with_reducible rfl
          show anyK _ _ _ _ _ _ _ _ (Act.put _ (some 42) _) _
          simp only [Act.put, List.setIfInBounds_toArray, List.set_cons_zero, List.set_cons_succ]
          refine anyK_one (i := 17) (by kernel_rfl) rfl (fun Kk hKk => ?_)
          go_simp
          (go_at_call 15; refine (HSO.out _ Ew0).mono ?_; rintro e w8 ⟨⟨v8, rfl, hr8⟩, hx⟩)
          have Ew8 : Ext w4 w8 := Ew0.trans hx
          obtain ⟨a8, c8, rfl, hac8, hcm8, hI8, _⟩ := ints_of_own hr8
          go_wp2_with fail
          refine hKk.out _ _ (fun _ => HSj.out _ Ew8) ?_
          clear hKk Kk hx
          simp only [List.setIfInBounds_toArray, List.set_cons_zero, List.set_cons_succ]
          refine anyK_one (i := 18) (by kernel_rfl) rfl (fun Kk hKk => ?_)
          go_simp
          (go_at_call 39; refine (HQu.out a8 c8 w8 hI8).mono ?_; rintro e w9 ⟨rfl, hx⟩)
          have Ew9 : Ext w4 w9 := Ew8.trans hx
          go_wp2_with fail
          refine hKk.out _ _ (fun _ => HSj.out _ Ew9) ?_
          clear hKk Kk hx
          simp only [List.setIfInBounds_toArray, List.set_cons_zero, List.set_cons_succ]
          refine anyK_take (i := 19) (v := ?_) rfl (by kernel_rfl) (by kernel_rfl) (by kernel_rfl) (N := 29) (by kernel_rfl) (by kernel_rfl) (by kernel_rfl) (fun _ _ _ h => h) (Or.inl ⟨by rfl, ?_⟩) (HSj.out _ Ew9) ?_
          rotate_left 1
          · intro w hSw
            go_simp
            try with_reducible rfl
          show anyK _ _ _ _ _ _ _ _ (Act.put _ (some 45) _) _
          simp only [Act.put, List.setIfInBounds_toArray, List.set_cons_zero, List.set_cons_succ]
          refine anyK_take (i := 20) (v := ?_) rfl (by kernel_rfl) (by kernel_rfl) (by kernel_rfl) (N := 29) (by kernel_rfl) (by kernel_rfl) (by kernel_rfl) (fun _ _ _ h => h) (Or.inl ⟨by rfl, ?_⟩) (HSj.out _ Ew9) ?_
          rotate_left 1
          · intro w hSw
            go_simp
            try with_reducible rfl
          show anyK _ _ _ _ _ _ _ _ (Act.put _ (some 46) _) _
          simp only [Act.put, List.setIfInBounds_toArray, List.set_cons_zero, List.set_cons_succ]
          refine anyK_take (i := 21) (v := ?_) rfl (by kernel_rfl) (by kernel_rfl) (by kernel_rfl) (N := 29) (by kernel_rfl) (by kernel_rfl) (by kernel_rfl) (fun _ _ _ h => h) (Or.inl ⟨by rfl, ?_⟩) (HSj.out _ Ew9) ?_
          rotate_left 1
          · intro w hSw
            go_simp
            try with_reducible rfl
          show anyK _ _ _ _ _ _ _ _ (Act.put _ (some 47) _) _
          simp only [Act.put, List.setIfInBounds_toArray, List.set_cons_zero, List.set_cons_succ]
          refine anyK_take (i := 22) (v := ?_) rfl (by kernel_rfl) (by kernel_rfl) (by kernel_rfl) (N := 29) (by kernel_rfl) (by kernel_rfl) (by kernel_rfl) (fun _ _ _ h => h) (Or.inl ⟨by rfl, ?_⟩) (HSj.out _ Ew9) ?_
          rotate_left 1
          · intro w hSw
            go_simp
            try with_reducible rfl
          show anyK _ _ _ _ _ _ _ _ (Act.put _ (some 48) _) _
          simp only [Act.put, List.setIfInBounds_toArray, List.set_cons_zero, List.set_cons_succ]
          refine anyK_take (i := 23) (v := ?_) rfl (by kernel_rfl) (by kernel_rfl) (by kernel_rfl) (N := 29) (by kernel_rfl) (by kernel_rfl) (by kernel_rfl) (fun _ _ _ h => h) (Or.inl ⟨by rfl, ?_⟩) (HSj.out _ Ew9) ?_
          rotate_left 1
          · intro w hSw
            go_simp
            try with_reducible rfl
          show anyK _ _ _ _ _ _ _ _ (Act.put _ (some 49) _) _
          simp only [Act.put, List.setIfInBounds_toArray, List.set_cons_zero, List.set_cons_succ]
          refine anyK_take (i := 24) (v := ?_) rfl (by kernel_rfl) (by kernel_rfl) (by kernel_rfl) (N := 29) (by kernel_rfl) (by kernel_rfl) (by kernel_rfl) (fun _ _ _ h => h) (Or.inl ⟨by rfl, ?_⟩) (HSj.out _ Ew9) ?_
          rotate_left 1
          · intro w hSw
            go_simp
            try with_reducible rfl
          show anyK _ _ _ _ _ _ _ _ (Act.put _ (some 50) _) _
          simp only [Act.put, List.setIfInBounds_toArray, List.set_cons_zero, List.set_cons_succ]
          refine anyK_take (i := 25) (v := ?_) rfl (by kernel_rfl) (by kernel_rfl) (by kernel_rfl) (N := 29) (by kernel_rfl) (by kernel_rfl) (by kernel_rfl) (fun _ _ _ h => h) (Or.inl ⟨by rfl, ?_⟩) (HSj.out _ Ew9) ?_
          rotate_left 1
          · intro w hSw
            go_simp
            try with_reducible rfl
          show anyK _ _ _ _ _ _ _ _ (Act.put _ (some 51) _) _
          simp only [Act.put, List.setIfInBounds_toArray, List.set_cons_zero, List.set_cons_succ]
          refine anyK_one (i := 26) (by kernel_rfl) rfl (fun Kk hKk => ?_)
          go_simp
          (go_at_call 40; refine (HIn.out _ Ew9).mono ?_; rintro e w10 ⟨rfl, hx⟩)
          have Ew10 : Ext w4 w10 := Ew9.trans hx
          go_wp2_with fail
          refine hKk.out _ _ (fun _ => HSj.out _ Ew10) ?_
          clear hKk Kk hx
          simp only [List.setIfInBounds_toArray, List.set_cons_zero, List.set_cons_succ]
          refine anyK_take (i := 27) (v := ?_) rfl (by kernel_rfl) (by kernel_rfl) (by kernel_rfl) (N := 29) (by kernel_rfl) (by kernel_rfl) (by kernel_rfl) (fun _ _ _ h => h) (Or.inl ⟨by rfl, ?_⟩) (HSj.out _ Ew10) ?_
          rotate_left 1
          · intro w hSw
            go_simp
            try with_reducible rfl
          show anyK _ _ _ _ _ _ _ _ (Act.put _ (some 53) _) _
          simp only [Act.put, List.setIfInBounds_toArray, List.set_cons_zero, List.set_cons_succ]
          refine anyK_one (i := 28) (by kernel_rfl) rfl (fun Kk hKk => ?_)
          go_wp2_with fail
          refine hKk.out _ _ (fun h => Bool.noConfusion (show true = false from h)) ?_
          clear hKk Kk
          simp only [List.setIfInBounds_toArray, List.set_cons_zero, List.set_cons_succ]
          refine anyK_done (by kernel_rfl) ?_ _
          go_wp2_with fail
          go_meet
          exact ⟨congrArg Value.bool HCn.out, Ew10⟩
      have q2 : decide ((we : Int) < (best : Int)) = false := decide_eq_false (by omega)
      have q2' : decide (we < best) = false := decide_eq_false hl
      have HCn := Lib.hid (show false = C by rw [← HC2.out]; unfold disB; rw [decide_eq_false hb, decide_eq_false hl]; simp)
      clear hb hl
      have Ew0 : Ext w4 w4.drew := Below.drew (Ext.refl _)
      refine wp_region_K 28 (fun w' => w'.cell? ⟨H, 0, none⟩ = some (.int .i64 (n : Int)) ∧ w'.cell? ⟨H, 1, none⟩ = some (.slice ao k c) ∧ w'.cell? ⟨b3, o3 + i, none⟩ = some (.string ⟨e.toArray⟩)) (by kernel_rfl) ?_
      show anyK _ _ _ _ _ _ 29 #[false, false, false, false, false, false, false, false, false, false, false, false, false, false, false, false, false, false, false, false, false, false, false, false, false, false, false, false, false] _ _
      refine anyK_take (i := 0) (v := ?_) rfl (by kernel_rfl) (by kernel_rfl) (by kernel_rfl) (N := 29) (by kernel_rfl) (by kernel_rfl) (by kernel_rfl) (fun _ _ _ h => h) (Or.inl ⟨by rfl, ?_⟩) (HSj.out _ Ew0) ?_
      rotate_left 1
      · intro w hSw
        go_simp
        try with_reducible rfl
      show anyK _ _ _ _ _ _ _ _ (Act.put _ (some 26) _) _
      simp only [Act.put, List.setIfInBounds_toArray, List.set_cons_zero, List.set_cons_succ]
      refine anyK_take (i := 1) (v := ?_) rfl (by kernel_rfl) (by kernel_rfl) (by kernel_rfl) (N := 29) (by kernel_rfl) (by kernel_rfl) (by kernel_rfl) (fun _ _ _ h => h) (Or.inl ⟨by rfl, ?_⟩) (HSj.out _ Ew0) ?_
      rotate_left 1
      · intro w hSw
        go_simp
        try with_reducible rfl
      show anyK _ _ _ _ _ _ _ _ (Act.put _ (some 27) _) _
      simp only [Act.put, List.setIfInBounds_toArray, List.set_cons_zero, List.set_cons_succ]
      refine anyK_take (i := 2) (v := ?_) rfl (by kernel_rfl) (by kernel_rfl) (by kernel_rfl) (N := 29) (by kernel_rfl) (by kernel_rfl) (by kernel_rfl) (fun _ _ _ h => h) (Or.inl ⟨by rfl, ?_⟩) (HSj.out _ Ew0) ?_
      rotate_left 1
      · intro w hSw
        go_simp
        try with_reducible rfl
      show anyK _ _ _ _ _ _ _ _ (Act.put _ (some 28) _) _
      simp only [Act.put, List.setIfInBounds_toArray, List.set_cons_zero, List.set_cons_succ]
      refine anyK_take (i := 3) (v := ?_) rfl (by kernel_rfl) (by kernel_rfl) (by kernel_rfl) (N := 29) (by kernel_rfl) (by kernel_rfl) (by kernel_rfl) (fun _ _ _ h => h) (Or.inl ⟨by rfl, ?_⟩) (HSj.out _ Ew0) ?_
      rotate_left 1
      · intro w hSw
        go_simp
        try with_reducible rfl
      show anyK _ _ _ _ _ _ _ _ (Act.put _ (some 29) _) _
      simp only [Act.put, List.setIfInBounds_toArray, List.set_cons_zero, List.set_cons_succ]
      refine anyK_take (i := 4) (v := ?_) rfl (by kernel_rfl) (by kernel_rfl) (by kernel_rfl) (N := 29) (by kernel_rfl) (by kernel_rfl) (by kernel_rfl) (fun _ _ _ h => h) (Or.inl ⟨by rfl, ?_⟩) (HSj.out _ Ew0) ?_
      rotate_left 1
      · intro w hSw
        go_simp
        try with_reducible rfl
      show anyK _ _ _ _ _ _ _ _ (Act.put _ (some 30) _) _
      simp only [Act.put, List.setIfInBounds_toArray, List.set_cons_zero, List.set_cons_succ]
      refine anyK_take (i := 5) (v := ?_) rfl (by kernel_rfl) (by kernel_rfl) (by kernel_rfl) (N := 29) (by kernel_rfl) (by kernel_rfl) (by kernel_rfl) (fun _ _ _ h => h) (Or.inl ⟨by rfl, ?_⟩) (HSj.out _ Ew0) ?_
      rotate_left 1
      · intro w hSw
        go_simp
        try with_reducible rfl
      show anyK _ _ _ _ _ _ _ _ (Act.put _ (some 31) _) _
      simp only [Act.put, List.setIfInBounds_toArray, List.set_cons_zero, List.set_cons_succ]
      refine anyK_take (i := 6) (v := ?_) rfl (by kernel_rfl) (by kernel_rfl) (by kernel_rfl) (N := 29) (by kernel_rfl) (by kernel_rfl) (by kernel_rfl) (fun _ _ _ h => h) (Or.inl ⟨by rfl, ?_⟩) (HSj.out _ Ew0) ?_
      rotate_left 1
      · intro w hSw
        go_simp
        try with_reducible rfl
      show anyK _ _ _ _ _ _ _ _ (Act.put _ (some 32) _) _
      simp only [Act.put, List.setIfInBounds_toArray, List.set_cons_zero, List.set_cons_succ]
      refine anyK_take (i := 7) (v := ?_) rfl (by kernel_rfl) (by kernel_rfl) (by kernel_rfl) (N := 29) (by kernel_rfl) (by kernel_rfl) (by kernel_rfl) (fun _ _ _ h => h) (Or.inl ⟨by rfl, ?_⟩) (HSj.out _ Ew0) ?_
      rotate_left 1
      · intro w hSw
        go_simp
        try with_reducible rfl
      show anyK _ _ _ _ _ _ _ _ (Act.put _ (some 33) _) _
      simp only [Act.put, List.setIfInBounds_toArray, List.set_cons_zero, List.set_cons_succ]
      refine anyK_take (i := 8) (v := undef) rfl (by kernel_rfl) (by kernel_rfl) (by kernel_rfl) (N := 29) (by kernel_rfl) (by kernel_rfl) (by kernel_rfl) (fun _ _ _ h => h) (Or.inr ⟨by rfl, rfl⟩) (HSj.out _ Ew0) ?_
      show anyK _ _ _ _ _ _ _ _ (Act.put _ (some 34) _) _
      simp only [Act.put, List.setIfInBounds_toArray, List.set_cons_zero, List.set_cons_succ]
      refine anyK_take (i := 9) (v := undef) rfl (by kernel_rfl) (by kernel_rfl) (by kernel_rfl) (N := 29) (by kernel_rfl) (by kernel_rfl) (by kernel_rfl) (fun _ _ _ h => h) (Or.inr ⟨by rfl, rfl⟩) (HSj.out _ Ew0) ?_
      show anyK _ _ _ _ _ _ _ _ (Act.put _ (some 35) _) _
      simp only [Act.put, List.setIfInBounds_toArray, List.set_cons_zero, List.set_cons_succ]
      refine anyK_take (i := 10) (v := ?_) rfl (by kernel_rfl) (by kernel_rfl) (by kernel_rfl) (N := 29) (by kernel_rfl) (by kernel_rfl) (by kernel_rfl) (fun _ _ _ h => h) (Or.inl ⟨by rfl, ?_⟩) (HSj.out _ Ew0) ?_
      rotate_left 1
      · intro w hSw
        go_simp
        try with_reducible rfl
      show anyK _ _ _ _ _ _ _ _ (Act.put _ (some 36) _) _
      simp only [Act.put, List.setIfInBounds_toArray, List.set_cons_zero, List.set_cons_succ]
      refine anyK_take (i := 11) (v := ?_) rfl (by kernel_rfl) (by kernel_rfl) (by kernel_rfl) (N := 29) (by kernel_rfl) (by kernel_rfl) (by kernel_rfl) (fun _ _ _ h => h) (Or.inl ⟨by rfl, ?_⟩) (HSj.out _ Ew0) ?_
      rotate_left 1
      · intro w hSw
        go_simp
        try with_reducible rfl
      show anyK _ _ _ _ _ _ _ _ (Act.put _ (some 37) _) _
      simp only [Act.put, List.setIfInBounds_toArray, List.set_cons_zero, List.set_cons_succ]
      refine anyK_take (i := 12) (v := undef) rfl (by kernel_rfl) (by kernel_rfl) (by kernel_rfl) (N := 29) (by kernel_rfl) (by kernel_rfl) (by kernel_rfl) (fun _ _ _ h => h) (Or.inr ⟨by rfl, rfl⟩) (HSj.out _ Ew0) ?_
      show anyK _ _ _ _ _ _ _ _ (Act.put _ (some 38) _) _
      simp only [Act.put, List.setIfInBounds_toArray, List.set_cons_zero, List.set_cons_succ]
      refine anyK_take (i := 13) (v := undef) rfl (by kernel_rfl) (by kernel_rfl) (by kernel_rfl) (N := 29) (by kernel_rfl) (by kernel_rfl) (by kernel_rfl) (fun _ _ _ h => h) (Or.inr ⟨by rfl, rfl⟩) (HSj.out _ Ew0) ?_
      show anyK _ _ _ _ _ _ _ _ (Act.put _ (some 39) _) _
      simp only [Act.put, List.setIfInBounds_toArray, List.set_cons_zero, List.set_cons_succ]
      refine anyK_take (i := 14) (v := undef) rfl (by kernel_rfl) (by kernel_rfl) (by kernel_rfl) (N := 29) (by kernel_rfl) (by kernel_rfl) (by kernel_rfl) (fun _ _ _ h => h) (Or.inr ⟨by rfl, rfl⟩) (HSj.out _ Ew0) ?_
      show anyK _ _ _ _ _ _ _ _ (Act.put _ (some 40) _) _
      simp only [Act.put, List.setIfInBounds_toArray, List.set_cons_zero, List.set_cons_succ]
      refine anyK_take (i := 15) (v := undef) rfl (by kernel_rfl) (by kernel_rfl) (by kernel_rfl) (N := 29) (by kernel_rfl) (by kernel_rfl) (by kernel_rfl) (fun _ _ _ h => h) (Or.inr ⟨by rfl, rfl⟩) (HSj.out _ Ew0) ?_
      show anyK _ _ _ _ _ _ _ _ (Act.put _ (some 41) _) _
      simp only [Act.put, List.setIfInBounds_toArray, List.set_cons_zero, List.set_cons_succ]
      refine anyK_take (i := 16) (v := undef) rfl (by kernel_rfl) (by kernel_rfl) (by kernel_rfl) (N := 29) (by kernel_rfl) (by kernel_rfl) (by kernel_rfl) (fun _ _ _ h => h) (Or.inr ⟨by rfl, rfl⟩) (HSj.out _ Ew0) ?_
      show anyK _ _ _ _ _ _ _ _ (Act.put _ (some 42) _) _
      simp only [Act.put, List.setIfInBounds_toArray, List.set_cons_zero, List.set_cons_succ]
      refine anyK_take (i := 17) (v := undef) rfl (by kernel_rfl) (by kernel_rfl) (by kernel_rfl) (N := 29) (by kernel_rfl) (by kernel_rfl) (by kernel_rfl) (fun _ _ _ h => h) (Or.inr ⟨by rfl, rfl⟩) (HSj.out _ Ew0) ?_
      show anyK _ _ _ _ _ _ _ _ (Act.put _ (some 43) _) _
      simp only [Act.put, List.setIfInBounds_toArray, List.set_cons_zero, List.set_cons_succ]
      refine anyK_take (i := 18) (v := undef) rfl (by kernel_rfl) (by kernel_rfl) (by kernel_rfl) (N := 29) (by kernel_rfl) (by kernel_rfl) (by kernel_rfl) (fun _ _ _ h => h) (Or.inr ⟨by rfl, rfl⟩) (HSj.out _ Ew0) ?_
      show anyK _ _ _ _ _ _ _ _ (Act.put _ (some 44) _) _
      simp only [Act.put, List.setIfInBounds_toArray, List.set_cons_zero, List.set_cons_succ]
      refine anyK_take (i := 19) (v := ?_) rfl (by kernel_rfl) (by kernel_rfl) (by kernel_rfl) (N := 29) (by kernel_rfl) (by kernel_rfl) (by kernel_rfl) (fun _ _ _ h => h) (Or.inl ⟨by rfl, ?_⟩) (HSj.out _ Ew0) ?_
      rotate_left 1
      · intro w hSw
        go_simp
        try with_reducible rfl
      show anyK _ _ _ _ _ _ _ _ (Act.put _ (some 45) _) _
      simp only [Act.put, List.setIfInBounds_toArray, List.set_cons_zero, List.set_cons_succ]
      refine anyK_take (i := 20) (v := ?_) rfl (by kernel_rfl) (by kernel_rfl) (by kernel_rfl) (N := 29) (by kernel_rfl) (by kernel_rfl) (by kernel_rfl) (fun _ _ _ h => h) (Or.inl ⟨by rfl, ?_⟩) (HSj.out _ Ew0) ?_
      rotate_left 1
      · intro w hSw
        go_simp
        try with_reducible rfl
      show anyK _ _ _ _ _ _ _ _ (Act.put _ (some 46) _) _
      simp only [Act.put, List.setIfInBounds_toArray, List.set_cons_zero, List.set_cons_succ]
      refine anyK_take (i := 21) (v := undef) rfl (by kernel_rfl) (by kernel_rfl) (by kernel_rfl) (N := 29) (by kernel_rfl) (by kernel_rfl) (by kernel_rfl) (fun _ _ _ h => h) (Or.inr ⟨by rfl, rfl⟩) (HSj.out _ Ew0) ?_
      show anyK _ _ _ _ _ _ _ _ (Act.put _ (some 47) _) _
      simp only [Act.put, List.setIfInBounds_toArray, List.set_cons_zero, List.set_cons_succ]
      refine anyK_take (i := 22) (v := undef) rfl (by kernel_rfl) (by kernel_rfl) (by kernel_rfl) (N := 29) (by kernel_rfl) (by kernel_rfl) (by kernel_rfl) (fun _ _ _ h => h) (Or.inr ⟨by rfl, rfl⟩) (HSj.out _ Ew0) ?_
      show anyK _ _ _ _ _ _ _ _ (Act.put _ (some 48) _) _
      simp only [Act.put, List.setIfInBounds_toArray, List.set_cons_zero, List.set_cons_succ]
      refine anyK_take (i := 23) (v := undef) rfl (by kernel_rfl) (by kernel_rfl) (by kernel_rfl) (N := 29) (by kernel_rfl) (by kernel_rfl) (by kernel_rfl) (fun _ _ _ h => h) (Or.inr ⟨by rfl, rfl⟩) (HSj.out _ Ew0) ?_
      show anyK _ _ _ _ _ _ _ _ (Act.put _ (some 49) _) _
      simp only [Act.put, List.setIfInBounds_toArray, List.set_cons_zero, List.set_cons_succ]
      refine anyK_take (i := 24) (v := undef) rfl (by kernel_rfl) (by kernel_rfl) (by kernel_rfl) (N := 29) (by kernel_rfl) (by kernel_rfl) (by kernel_rfl) (fun _ _ _ h => h) (Or.inr ⟨by rfl, rfl⟩) (HSj.out _ Ew0) ?_
      show anyK _ _ _ _ _ _ _ _ (Act.put _ (some 50) _) _
      simp only [Act.put, List.setIfInBounds_toArray, List.set_cons_zero, List.set_cons_succ]
      refine anyK_take (i := 25) (v := undef) rfl (by kernel_rfl) (by kernel_rfl) (by kernel_rfl) (N := 29) (by kernel_rfl) (by kernel_rfl) (by kernel_rfl) (fun _ _ _ h => h) (Or.inr ⟨by rfl, rfl⟩) (HSj.out _ Ew0) ?_
      show anyK _ _ _ _ _ _ _ _ (Act.put _ (some 51) _) _
      simp only [Act.put, List.setIfInBounds_toArray, List.set_cons_zero, List.set_cons_succ]
      refine anyK_take (i := 26) (v := undef) rfl (by kernel_rfl) (by kernel_rfl) (by kernel_rfl) (N := 29) (by kernel_rfl) (by kernel_rfl) (by kernel_rfl) (fun _ _ _ h => h) (Or.inr ⟨by rfl, rfl⟩) (HSj.out _ Ew0) ?_
      show anyK _ _ _ _ _ _ _ _ (Act.put _ (some 52) _) _
      simp only [Act.put, List.setIfInBounds_toArray, List.set_cons_zero, List.set_cons_succ]
      refine anyK_take (i := 27) (v := undef) rfl (by kernel_rfl) (by kernel_rfl) (by kernel_rfl) (N := 29) (by kernel_rfl) (by kernel_rfl) (by kernel_rfl) (fun _ _ _ h => h) (Or.inr ⟨by rfl, rfl⟩) (HSj.out _ Ew0) ?_
      show anyK _ _ _ _ _ _ _ _ (Act.put _ (some 53) _) _
      simp only [Act.put, List.setIfInBounds_toArray, List.set_cons_zero, List.set_cons_succ]
      refine anyK_one (i := 28) (by kernel_rfl) rfl (fun Kk hKk => ?_)
      go_wp2_with fail
      refine hKk.out _ _ (fun h => Bool.noConfusion (show true = false from h)) ?_
      clear hKk Kk
      simp only [List.setIfInBounds_toArray, List.set_cons_zero, List.set_cons_succ]
      refine anyK_done (by kernel_rfl) ?_ _
      go_wp2_with fail
      go_meet
      exact ⟨congrArg Value.bool HCn.out, Ew0⟩
    case rest =>
      obtain ⟨rfl, hx⟩ := hcut
      have HX := Lib.hid (HER.out.trans (H4.out.trans hx))
      clear hx c0 v0 v1
      cases C
      · have Hb2 := Lib.hid (show disF (fun e => quB (synL gens e)) (inG G) (es.take (i + 1)) = best by have := Hbst.out; simpa using this)
        go_wp2_with fail
        go_roundg (en - (i + 1))
        case measure => have := Hkk.out; have := Hlt.out; omega
        case rel => exact ⟨HX.out, i + 1, best, rfl, Hlt.out, rfl, rfl, Hb2.out⟩
      · have Hb2 := Lib.hid (show disF (fun e => quB (synL gens e)) (inG G) (es.take (i + 1)) = we by have := Hbst.out; simpa using this)
        go_wp2_with fail
        go_roundg (en - (i + 1))
        case measure => have := Hkk.out; have := Hlt.out; omega
        case rel => exact ⟨HX.out, i + 1, we, rfl, Hlt.out, rfl, rfl, Hb2.out⟩
end Go.Proofs.YtfoncakadficlaaDoor
