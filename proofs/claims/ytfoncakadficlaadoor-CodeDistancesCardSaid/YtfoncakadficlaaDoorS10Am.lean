/-
  The reference: lists of ints that are alike; the first error of least weight with a syndrome (DecodeOf).
-/
import Derived.Test.YtfoncakadficlaaDoorProg
import Derived.Test.YtfoncakadficlaaDoorRows
import Derived.BigQuiet
import Derived.Deep.AppendLies
import Derived.Deep.Cut
import Derived.Deep.CutRange
import Derived.Deep.LoopGhost
import Derived.Deep.QuietTactic
import Derived.Deep.RegionHeld3
import Derived.DeepKeys4
import Derived.Laws.Bits64b
import Derived.Laws.CopyOwn
import Derived.Laws.ResultCell
import Derived.Lib.AppendStr
import Derived.Lib.BitFns
import Derived.Lib.Hide
import Derived.Lib.ItoaMem
import Derived.Lib.ItoaNum
import Derived.Lib.Strings
import Derived.LoopIn
import Derived.LoopNIn
import Derived.Maps.AppendAt
import Derived.Maps.OwnSet
import Derived.OwnWalk
import Derived.OwnWalkIn
import Derived.RangeFuncBound
import Derived.RangeFuncBox
import Derived.RangeFuncCalls
import Derived.RangeFuncGives
import Derived.RangeFuncLeaves
import Derived.RangeFuncNested
import Derived.RangeFuncStops
import Derived.Shelf.Abstract
import Derived.Shelf.Bits.Mul64
import Derived.Shelf.RegionOpen
import Derived.Shelf.Small.Strs
import Derived.Shelf.Strings.Builder1
import Derived.Shelf.Strings.BuilderF
import Derived.Shelf.Strings.BuilderK
import Derived.Shelf.Strings.Prefix
import Derived.Shelf.Strings.Search1
import Derived.Sort.MapsRangeIn
import Derived.TacticsInMore
import Derived.WalkKit
import Derived.WalkLawsBesides
import Derived.WalkSpells
import Derived.Test.YtfoncakadficlaaDoorS00Ca
import Derived.Test.YtfoncakadficlaaDoorShelf
import Derived.Test.YtfoncakadficlaaDoorS02Ig
import Derived.Test.YtfoncakadficlaaDoorS03In
import Derived.Test.YtfoncakadficlaaDoorS04Is
import Derived.Test.YtfoncakadficlaaDoorS05It
import Derived.Test.YtfoncakadficlaaDoorS06Ix
import Derived.Test.YtfoncakadficlaaDoorS07Aa
import Derived.Test.YtfoncakadficlaaDoorS08Aj
import Derived.Test.YtfoncakadficlaaDoorS09Al
namespace Go.Proofs.YtfoncakadficlaaDoor
open Go.RowKit

set_option maxHeartbeats 4000000 in
set_option maxRecDepth 100000 in
theorem sameInts_dec (l1 l2 : List Int) (a1 : Option Addr) (n1 c1 : Nat) (a2 : Option Addr) (n2 c2 : Nat) (w : World) (h1 : IntsAt w a1 n1 l1) (h2 : IntsAt w a2 n2 l2) (hn : n1 ≤ 9223372036854775806) :
    Calls Tryd.prog 14 #[.slice a1 n1 c1, .slice a2 n2 c2] w fun e w' => e = .returned (.bool (decide (l1 = l2))) ∧ Ext w w' := by
  have H1 := Lib.hid h1; have H2 := Lib.hid h2; have Hn := Lib.hid hn; have Hl := Lib.hid (And.intro h1.1 h2.1)
  obtain ⟨B, hB⟩ : ∃ B, decide (l1 = l2) = B := ⟨_, rfl⟩
  rw [hB]
  have HB := Lib.hid hB
  clear h1 h2 hn hB
  go_enter Tryd.func14, Tryd.ntmps14
  by_cases hne : n1 = n2
  rotate_left 1
  · have hcb := nt (show ¬ (n1 : Int) = (n2 : Int) by omega)
    have HBf := Lib.hid (show B = false by rw [← HB.out]; exact decide_eq_false (fun e => hne (by have := Hl.out; rw [← this.1, ← this.2, e])))
    clear hne
    go_wp2_with fail
    go_ret
    exact ⟨congrArg (fun b => Ending.returned (Value.bool b)) HBf.out.symm, Ext.refl _⟩
  subst hne
  have hcb := nf' (show (n1 : Int) = (n1 : Int) from rfl)
  go_wp2_with fail
  go_loopg [5] n1 (fun kk s5 wr => Ext w wr ∧ ∃ i : Nat, s5 = .int .i64 (i : Int) ∧ i ≤ n1 ∧ n1 - i = kk ∧ l1.take i = l2.take i)
  case atStart => exact ⟨Ext.refl _, 0, rfl, Nat.zero_le _, rfl, rfl⟩
  case round =>
    obtain ⟨hER, i, rfl, hi, hkk, hq⟩ := hrel
    have HER := Lib.hid hER; have Hkk := Lib.hid hkk; have Hq := Lib.hid hq
    by_cases hin : i = n1
    · have q1 : ¬ (i : Int) < (n1 : Int) := by omega
      have HBt := Lib.hid (show B = true by
        rw [← HB.out]
        refine decide_eq_true ?_
        have e1 : l1.take i = l1 := List.take_of_length_le (by have := Hl.out; omega)
        have e2 : l2.take i = l2 := List.take_of_length_le (by have := Hl.out; omega)
        rw [← e1, ← e2]; exact hq)
      clear hin hi hER hkk hq
      go_wp2_with fail
      go_ret
      exact ⟨congrArg (fun b => Ending.returned (Value.bool b)) HBt.out.symm, HER.out⟩
    have hlt : i < n1 := by omega
    have q1 : (i : Int) < (n1 : Int) := by omega
    have q0 : (0 : Int) ≤ (i : Int) := by omega
    have wk : IntKind.i64.wrap ((i : Int) + 1) = ((i + 1 : Nat) : Int) := by rw [IntKind.wrap_i64]; have := Hn.out; omega
    obtain ⟨x, hx⟩ : ∃ x, l1[i]? = some x := ⟨_, List.getElem?_eq_getElem (by have := Hl.out; omega)⟩
    obtain ⟨y, hy⟩ : ∃ y, l2[i]? = some y := ⟨_, List.getElem?_eq_getElem (by have := Hl.out; omega)⟩
    obtain ⟨b1, o1, rfl, _, hcs⟩ := (H1.out.ext hER).at (by omega)
    obtain ⟨b2, o2, rfl, _, hcs2⟩ := (H2.out.ext hER).at (by omega)
    have c0 := hcs i hlt
    have d0 := hcs2 i hlt
    rw [show l1.getD i 0 = x by rw [List.getD_eq_getElem?_getD, hx]; rfl] at c0
    rw [show l2.getD i 0 = y by rw [List.getD_eq_getElem?_getD, hy]; rfl] at d0
    have Hlt := Lib.hid hlt; have Hx := Lib.hid hx; have Hy := Lib.hid hy
    clear hER hkk hq hi hin hlt hcs hcs2 hx hy hcb
    by_cases h0 : x = y
    · have t1 := nf' h0
      have Hst := Lib.hid (show l1.take (i + 1) = l2.take (i + 1) by rw [List.take_add_one, List.take_add_one, Hx.out, Hy.out, Hq.out, h0])
      clear h0
      go_upto_region 6 with fail
      go_region
      go_wp2_with fail
      go_roundg (n1 - (i + 1))
      case measure => have := Hkk.out; have := Hlt.out; omega
      case rel => exact ⟨HER.out.trans (Below.drew (Ext.refl _)), i + 1, rfl, Hlt.out, rfl, Hst.out⟩
    · have t1 := nt h0
      have HBf := Lib.hid (show B = false by
        rw [← HB.out]
        refine decide_eq_false (fun e => h0 ?_)
        have h9 := Hx.out
        rw [e, Hy.out] at h9
        exact (Option.some.inj h9).symm)
      clear h0
      go_upto_region 6 with fail
      go_region
      go_wp2_with fail
      go_ret
      exact ⟨congrArg (fun b => Ending.returned (Value.bool b)) HBf.out.symm, HER.out.trans (Below.drew (Ext.refl _))⟩

/-- Has the error that syndrome? -/
def synQ (gens : List (List UInt8)) (s : List Int) (e : List UInt8) : Bool := decide (synL gens e = s)
/-- Is an error better than the best so far? -/
def betB (Q : List UInt8 → Bool) (o : Option (List UInt8)) (e : List UInt8) : Bool := match o with
  | none => Q e
  | some b => Q e && decide (wtT e < wtT b)
theorem bst_bet (Q : List UInt8 → Bool) (L : List (List UInt8)) (e : List UInt8) : bst wtT Q (L ++ [e]) = if betB Q (bst wtT Q L) e then some e else bst wtT Q L := by
  rw [bst_snoc]
  cases bst wtT Q L <;> rfl

set_option maxHeartbeats 16000000 in
set_option maxRecDepth 100000 in
theorem DecodeOf_any (N : Int) (gens : List (List UInt8)) (s : List Int) (es : List (List UInt8)) (ao : Option Addr) (k c : Nat) (bo : Option Addr) (bn bc : Nat) (eo : Option Addr) (en ec : Nat) (w : World) (hG : StrsAt w ao k gens) (hk : k ≤ 12) (n : Nat) (hn : n ≤ 12) (hn1 : 1 ≤ n) (hall : ∀ T ∈ gens, T.length = n + 1)
    (hI : IntsAt w bo bn s) (hE : StrsAt w eo en es) (hen : en ≤ 9223372036854775806) (hel : ∀ e ∈ es, e.length = n) :
    Calls Tryd.prog 19 #[.agg #[.int .i64 N, .slice ao k c], .slice bo bn bc, .slice eo en ec] w fun r w' => r = .returned (.string ⟨((bst wtT (synQ gens s) es).getD []).toArray⟩) ∧ Ext w w' := by
  obtain ⟨U, hU⟩ : ∃ U, w.alloc (.cells #[.int .i64 N, .slice ao k c] 24) = U := ⟨_, rfl⟩
  obtain ⟨H, hH⟩ : ∃ H, w.heap.size = H := ⟨_, rfl⟩
  have EU : Ext w U := by rw [← hU]; exact ext_al _ _
  have C0 : CoB U H N ao k c := by rw [← hU, ← hH]; exact CoB.new w _ _ _ _
  have HG := Lib.hid (hG.ext EU); have Hk := Lib.hid hk; have Hn := Lib.hid (And.intro hn hn1); have Hall := Lib.hid hall; have HEU := Lib.hid EU; have HC := Lib.hid C0; have HU := Lib.hid hU; have HH := Lib.hid hH; have HI := Lib.hid (hI.ext EU); have HE := Lib.hid (hE.ext EU); have Hen := Lib.hid hen; have Hel := Lib.hid hel
  have Hlg := Lib.hid (show es.length = en from hE.1)
  obtain ⟨R, hR⟩ : ∃ R, (bst wtT (synQ gens s) es).getD [] = R := ⟨_, rfl⟩
  rw [hR]
  have HR := Lib.hid hR
  clear hG hk hn hn1 hall EU C0 hU hH hI hE hen hel hR
  go_enter Tryd.func19, Tryd.ntmps19
  go_upto_region 1 with fail
  rw [HU.out, HH.out]
  clear HU HH
  go_wp2_with fail
  go_loopg [7, 8] en (fun kk s7 s8 wr => Ext U wr ∧ ∃ i : Nat, s8 = .int .i64 (i : Int) ∧ i ≤ en ∧ en - i = kk ∧ s7 = .string ⟨((bst wtT (synQ gens s) (es.take i)).getD []).toArray⟩)
  case atStart => exact ⟨Ext.refl _, 0, rfl, Nat.zero_le _, rfl, rfl⟩
  case round =>
    obtain ⟨hER, i, rfl, hi, hkk, rfl⟩ := hrel
    have HER := Lib.hid hER; have Hkk := Lib.hid hkk
    by_cases hin : i = en
    · have q1 : ¬ (i : Int) < (en : Int) := by omega
      have e1 : es.take i = es := List.take_of_length_le (by have := Hlg.out; omega)
      rw [e1, HR.out]
      clear e1 hin hi hER hkk
      go_wp2_with fail
      go_ret
      exact ⟨rfl, HEU.out.trans HER.out⟩
    have hlt : i < en := by omega
    have q1 : (i : Int) < (en : Int) := by omega
    have q0 : (0 : Int) ≤ (i : Int) := by omega
    have wk : IntKind.i64.wrap ((i : Int) + 1) = ((i + 1 : Nat) : Int) := by rw [IntKind.wrap_i64]; have := Hen.out; omega
    obtain ⟨e, he⟩ : ∃ e, es[i]? = some e := ⟨_, List.getElem?_eq_getElem (by have := Hlg.out; omega)⟩
    obtain ⟨b3, o3, rfl, _, hcs⟩ := (HE.out.ext hER).at (by omega)
    have c0 := hcs i hlt
    rw [show es.getD i [] = e by rw [List.getD_eq_getElem?_getD, he]; rfl] at c0
    have hlen := Hel.out e (List.mem_of_getElem? he)
    have hbst := bst_bet (synQ gens s) (es.take i) e
    have htk : es.take i ++ [e] = es.take (i + 1) := by rw [List.take_add_one, he]; rfl
    rw [htk] at hbst
    have hsp := bst_spec wtT (synQ gens s) (es.take i)
    obtain ⟨o, ho⟩ : ∃ o, bst wtT (synQ gens s) (es.take i) = o := ⟨_, rfl⟩
    rw [ho] at hbst hsp ⊢
    have hob : ∀ b, o = some b → b.length = n := fun b h => by
      rw [h] at hsp
      exact Hel.out b (List.mem_of_mem_take hsp.1)
    obtain ⟨C, hC⟩ : ∃ C, betB (synQ gens s) o e = C := ⟨_, rfl⟩
    rw [hC] at hbst
    have Hbst := Lib.hid hbst; have HC2 := Lib.hid hC; have Hob := Lib.hid hob; have Hlt := Lib.hid hlt
    have v0 := (HC.out.ext hER).x0; have v1 := (HC.out.ext hER).x1
    have HSj := Lib.hid (fun (w' : World) (hx : Ext wr w') => (show w'.cell? ⟨H, 0, none⟩ = some (.int .i64 N) ∧ w'.cell? ⟨H, 1, none⟩ = some (.slice ao k c) ∧ w'.cell? ⟨b3, o3 + i, none⟩ = some (.string ⟨e.toArray⟩) from ⟨cell_ext v0 hx, cell_ext v1 hx, cell_ext c0 hx⟩))
    have HSO := Lib.hid (fun (wx : World) (hx : Ext wr wx) => SyndromeOf_any N gens e ao k c wx (HG.out.ext (hER.trans hx)) Hk.out n Hn.out.1 Hall.out hlen)
    have HWe := Lib.hid (fun wx => rWeight_any e wx (by have := Hn.out; omega))
    clear hER hkk hi hin hlt he hcs hlen hbst htk hsp ho hob hC
    go_upto_region 5 with fail
    go_cut [36] from 9 to 40 (fun s36 wx => s36 = .bool C ∧ Ext wr wx)
    case first =>
      clear v0 v1 c0
      cases o with
      | none =>
        have HCq := Lib.hid (show decide (synL gens e = s) = C from HC2.out)
        obtain ⟨we, hwe⟩ : ∃ we, wtT e = we := ⟨_, rfl⟩
        rw [hwe] at HWe
        clear hwe
        simp only [Option.getD_none]
        have Ew0 : Ext wr wr.drew := Below.drew (Ext.refl _)
        refine wp_region_K 21 (fun w' => w'.cell? ⟨H, 0, none⟩ = some (.int .i64 N) ∧ w'.cell? ⟨H, 1, none⟩ = some (.slice ao k c) ∧ w'.cell? ⟨b3, o3 + i, none⟩ = some (.string ⟨e.toArray⟩)) (by kernel_rfl) ?_
        show anyK _ _ _ _ _ _ 22 #[false, false, false, false, false, false, false, false, false, false, false, false, false, false, false, false, false, false, false, false, false, false] _ _
        refine anyK_take (i := 0) (v := ?_) rfl (by kernel_rfl) (by kernel_rfl) (by kernel_rfl) (N := 22) (by kernel_rfl) (by kernel_rfl) (by kernel_rfl) (fun _ _ _ h => h) (Or.inl ⟨by rfl, ?_⟩) (HSj.out _ Ew0) ?_
        rotate_left 1
        · intro w hSw
          go_simp
          try with_reducible rfl
        show anyK _ _ _ _ _ _ _ _ (Act.put _ (some 15) _) _
        simp only [Act.put, List.setIfInBounds_toArray, List.set_cons_zero, List.set_cons_succ]
        refine anyK_take (i := 1) (v := ?_) rfl (by kernel_rfl) (by kernel_rfl) (by kernel_rfl) (N := 22) (by kernel_rfl) (by kernel_rfl) (by kernel_rfl) (fun _ _ _ h => h) (Or.inl ⟨by rfl, ?_⟩) (HSj.out _ Ew0) ?_
        rotate_left 1
        · intro w hSw
          go_simp
          try with_reducible rfl
        show anyK _ _ _ _ _ _ _ _ (Act.put _ (some 16) _) _
        simp only [Act.put, List.setIfInBounds_toArray, List.set_cons_zero, List.set_cons_succ]
        refine anyK_take (i := 2) (v := ?_) rfl (by kernel_rfl) (by kernel_rfl) (by kernel_rfl) (N := 22) (by kernel_rfl) (by kernel_rfl) (by kernel_rfl) (fun _ _ _ h => h) (Or.inl ⟨by rfl, ?_⟩) (HSj.out _ Ew0) ?_
        rotate_left 1
        · intro w hSw
          go_simp
          try with_reducible rfl
        show anyK _ _ _ _ _ _ _ _ (Act.put _ (some 17) _) _
        simp only [Act.put, List.setIfInBounds_toArray, List.set_cons_zero, List.set_cons_succ]
        refine anyK_take (i := 3) (v := undef) rfl (by kernel_rfl) (by kernel_rfl) (by kernel_rfl) (N := 22) (by kernel_rfl) (by kernel_rfl) (by kernel_rfl) (fun _ _ _ h => h) (Or.inr ⟨by rfl, rfl⟩) (HSj.out _ Ew0) ?_
        show anyK _ _ _ _ _ _ _ _ (Act.put _ (some 18) _) _
        simp only [Act.put, List.setIfInBounds_toArray, List.set_cons_zero, List.set_cons_succ]
        refine anyK_take (i := 4) (v := undef) rfl (by kernel_rfl) (by kernel_rfl) (by kernel_rfl) (N := 22) (by kernel_rfl) (by kernel_rfl) (by kernel_rfl) (fun _ _ _ h => h) (Or.inr ⟨by rfl, rfl⟩) (HSj.out _ Ew0) ?_
        show anyK _ _ _ _ _ _ _ _ (Act.put _ (some 19) _) _
        simp only [Act.put, List.setIfInBounds_toArray, List.set_cons_zero, List.set_cons_succ]
        refine anyK_take (i := 5) (v := undef) rfl (by kernel_rfl) (by kernel_rfl) (by kernel_rfl) (N := 22) (by kernel_rfl) (by kernel_rfl) (by kernel_rfl) (fun _ _ _ h => h) (Or.inr ⟨by rfl, rfl⟩) (HSj.out _ Ew0) ?_
        show anyK _ _ _ _ _ _ _ _ (Act.put _ (some 20) _) _
        simp only [Act.put, List.setIfInBounds_toArray, List.set_cons_zero, List.set_cons_succ]
        refine anyK_take (i := 6) (v := undef) rfl (by kernel_rfl) (by kernel_rfl) (by kernel_rfl) (N := 22) (by kernel_rfl) (by kernel_rfl) (by kernel_rfl) (fun _ _ _ h => h) (Or.inr ⟨by rfl, rfl⟩) (HSj.out _ Ew0) ?_
        show anyK _ _ _ _ _ _ _ _ (Act.put _ (some 21) _) _
        simp only [Act.put, List.setIfInBounds_toArray, List.set_cons_zero, List.set_cons_succ]
        refine anyK_take (i := 7) (v := undef) rfl (by kernel_rfl) (by kernel_rfl) (by kernel_rfl) (N := 22) (by kernel_rfl) (by kernel_rfl) (by kernel_rfl) (fun _ _ _ h => h) (Or.inr ⟨by rfl, rfl⟩) (HSj.out _ Ew0) ?_
        show anyK _ _ _ _ _ _ _ _ (Act.put _ (some 22) _) _
        simp only [Act.put, List.setIfInBounds_toArray, List.set_cons_zero, List.set_cons_succ]
        refine anyK_take (i := 8) (v := undef) rfl (by kernel_rfl) (by kernel_rfl) (by kernel_rfl) (N := 22) (by kernel_rfl) (by kernel_rfl) (by kernel_rfl) (fun _ _ _ h => h) (Or.inr ⟨by rfl, rfl⟩) (HSj.out _ Ew0) ?_
        show anyK _ _ _ _ _ _ _ _ (Act.put _ (some 23) _) _
        simp only [Act.put, List.setIfInBounds_toArray, List.set_cons_zero, List.set_cons_succ]
        refine anyK_take (i := 9) (v := undef) rfl (by kernel_rfl) (by kernel_rfl) (by kernel_rfl) (N := 22) (by kernel_rfl) (by kernel_rfl) (by kernel_rfl) (fun _ _ _ h => h) (Or.inr ⟨by rfl, rfl⟩) (HSj.out _ Ew0) ?_
        show anyK _ _ _ _ _ _ _ _ (Act.put _ (some 24) _) _
        simp only [Act.put, List.setIfInBounds_toArray, List.set_cons_zero, List.set_cons_succ]
        refine anyK_take (i := 10) (v := undef) rfl (by kernel_rfl) (by kernel_rfl) (by kernel_rfl) (N := 22) (by kernel_rfl) (by kernel_rfl) (by kernel_rfl) (fun _ _ _ h => h) (Or.inr ⟨by rfl, rfl⟩) (HSj.out _ Ew0) ?_
        show anyK _ _ _ _ _ _ _ _ (Act.put _ (some 25) _) _
        simp only [Act.put, List.setIfInBounds_toArray, List.set_cons_zero, List.set_cons_succ]
        refine anyK_take (i := 11) (v := ?_) rfl (by kernel_rfl) (by kernel_rfl) (by kernel_rfl) (N := 22) (by kernel_rfl) (by kernel_rfl) (by kernel_rfl) (fun _ _ _ h => h) (Or.inl ⟨by rfl, ?_⟩) (HSj.out _ Ew0) ?_
        rotate_left 1
        · intro w hSw
          go_simp
          try with_reducible rfl
        show anyK _ _ _ _ _ _ _ _ (Act.put _ (some 26) _) _
        simp only [Act.put, List.setIfInBounds_toArray, List.set_cons_zero, List.set_cons_succ]
        refine anyK_take (i := 12) (v := ?_) rfl (by kernel_rfl) (by kernel_rfl) (by kernel_rfl) (N := 22) (by kernel_rfl) (by kernel_rfl) (by kernel_rfl) (fun _ _ _ h => h) (Or.inl ⟨by rfl, ?_⟩) (HSj.out _ Ew0) ?_
        rotate_left 1
        · intro w hSw
          go_simp
          try with_reducible rfl
        show anyK _ _ _ _ _ _ _ _ (Act.put _ (some 27) _) _
        simp only [Act.put, List.setIfInBounds_toArray, List.set_cons_zero, List.set_cons_succ]
        refine anyK_take (i := 13) (v := ?_) rfl (by kernel_rfl) (by kernel_rfl) (by kernel_rfl) (N := 22) (by kernel_rfl) (by kernel_rfl) (by kernel_rfl) (fun _ _ _ h => h) (Or.inl ⟨by rfl, ?_⟩) (HSj.out _ Ew0) ?_
        rotate_left 1
        · intro w hSw
          go_simp
          try with_reducible rfl
        show anyK _ _ _ _ _ _ _ _ (Act.put _ (some 28) _) _
        simp only [Act.put, List.setIfInBounds_toArray, List.set_cons_zero, List.set_cons_succ]
        refine anyK_take (i := 14) (v := ?_) rfl (by kernel_rfl) (by kernel_rfl) (by kernel_rfl) (N := 22) (by kernel_rfl) (by kernel_rfl) (by kernel_rfl) (fun _ _ _ h => h) (Or.inl ⟨by rfl, ?_⟩) (HSj.out _ Ew0) ?_
        rotate_left 1
        · intro w hSw
          go_simp
          try with_reducible rfl
        show anyK _ _ _ _ _ _ _ _ (Act.put _ (some 29) _) _
        simp only [Act.put, List.setIfInBounds_toArray, List.set_cons_zero, List.set_cons_succ]
        refine anyK_take (i := 15) (v := ?_) rfl (by kernel_rfl) (by kernel_rfl) (by kernel_rfl) (N := 22) (by kernel_rfl) (by kernel_rfl) (by kernel_rfl) (fun _ _ _ h => h) (Or.inl ⟨by rfl, ?_⟩) (HSj.out _ Ew0) ?_
        rotate_left 1
        · intro w hSw
          go_simp
          try with_reducible rfl
        show anyK _ _ _ _ _ _ _ _ (Act.put _ (some 30) _) _
        simp only [Act.put, List.setIfInBounds_toArray, List.set_cons_zero, List.set_cons_succ]
        refine anyK_take (i := 16) (v := ?_) rfl (by kernel_rfl) (by kernel_rfl) (by kernel_rfl) (N := 22) (by kernel_rfl) (by kernel_rfl) (by kernel_rfl) (fun _ _ _ h => h) (Or.inl ⟨by rfl, ?_⟩) (HSj.out _ Ew0) ?_
        rotate_left 1
        · intro w hSw
          go_simp
          try with_reducible rfl
        show anyK _ _ _ _ _ _ _ _ (Act.put _ (some 31) _) _
        simp only [Act.put, List.setIfInBounds_toArray, List.set_cons_zero, List.set_cons_succ]
        refine anyK_take (i := 17) (v := ?_) rfl (by kernel_rfl) (by kernel_rfl) (by kernel_rfl) (N := 22) (by kernel_rfl) (by kernel_rfl) (by kernel_rfl) (fun _ _ _ h => h) (Or.inl ⟨by rfl, ?_⟩) (HSj.out _ Ew0) ?_
        rotate_left 1
        · intro w hSw
          go_simp
          try with_reducible rfl
        show anyK _ _ _ _ _ _ _ _ (Act.put _ (some 32) _) _
        simp only [Act.put, List.setIfInBounds_toArray, List.set_cons_zero, List.set_cons_succ]
        refine anyK_take (i := 19) (v := ?_) rfl (by kernel_rfl) (by kernel_rfl) (by kernel_rfl) (N := 22) (by kernel_rfl) (by kernel_rfl) (by kernel_rfl) (fun _ _ _ h => h) (Or.inl ⟨by rfl, ?_⟩) (HSj.out _ Ew0) ?_
        rotate_left 1
        · intro w hSw
          go_simp
          try with_reducible rfl
        show anyK _ _ _ _ _ _ _ _ (Act.put _ (some 34) _) _
        simp only [Act.put, List.setIfInBounds_toArray, List.set_cons_zero, List.set_cons_succ]
        refine anyK_one (i := 18) (by kernel_rfl) rfl (fun Kk hKk => ?_)
        go_simp
        (go_at_call 15; refine (HSO.out _ Ew0).mono ?_; rintro e w8 ⟨⟨v8, rfl, hr8⟩, hx⟩)
        have Ew8 : Ext wr w8 := Ew0.trans hx
        obtain ⟨a8, c8, rfl, hac8, hcm8, hI8, _⟩ := ints_of_own hr8
        go_wp2_with fail
        refine hKk.out _ _ (fun _ => HSj.out _ Ew8) ?_
        clear hKk Kk hx
        simp only [List.setIfInBounds_toArray, List.set_cons_zero, List.set_cons_succ]
        refine anyK_one (i := 20) (by kernel_rfl) rfl (fun Kk hKk => ?_)
        go_simp
        (go_at_call 14; refine (sameInts_dec _ _ a8 k c8 bo bn bc w8 hI8 (HI.out.ext (HER.out.trans Ew8)) (by have := Hk.out; omega)).mono ?_; rintro e w9 ⟨rfl, hx⟩)
        have Ew9 : Ext wr w9 := Ew8.trans hx
        go_wp2_with fail
        refine hKk.out _ _ (fun _ => HSj.out _ Ew9) ?_
        clear hKk Kk hx
        simp only [List.setIfInBounds_toArray, List.set_cons_zero, List.set_cons_succ]
        refine anyK_one (i := 21) (by kernel_rfl) rfl (fun Kk hKk => ?_)
        go_wp2_with fail
        refine hKk.out _ _ (fun h => Bool.noConfusion (show true = false from h)) ?_
        clear hKk Kk
        simp only [List.setIfInBounds_toArray, List.set_cons_zero, List.set_cons_succ]
        refine anyK_done (by kernel_rfl) ?_ _
        go_wp2_with fail
        go_meet
        exact ⟨congrArg Value.bool HCq.out, Ew9⟩
      | some b =>
        have hbl := Hob.out b rfl
        have hbne : (b == []) = false := by
          cases b with
          | nil => have := Hn.out; simp at hbl; omega
          | cons x r => rfl
        have HWb := Lib.hid (fun wx => rWeight_any b wx (by have := Hn.out; omega))
        simp only [Option.getD_some]
        obtain ⟨we, hwe⟩ : ∃ we, wtT e = we := ⟨_, rfl⟩
        obtain ⟨wb, hwb⟩ : ∃ wb, wtT b = wb := ⟨_, rfl⟩
        rw [hwe] at HWe
        rw [hwb] at HWb
        have hCC : (decide (synL gens e = s) && decide (we < wb)) = C := by rw [← hwe, ← hwb]; exact HC2.out
        have HCC := Lib.hid hCC
        clear hwe hwb hbl hCC
        by_cases hlw : we < wb
        · have q2 : (we : Int) < (wb : Int) := by omega
          have HCq := Lib.hid (show decide (synL gens e = s) = C by rw [← HCC.out, decide_eq_true hlw, Bool.and_true])
          clear hlw
          have Ew0 : Ext wr wr.drew := Below.drew (Ext.refl _)
          refine wp_region_K 21 (fun w' => w'.cell? ⟨H, 0, none⟩ = some (.int .i64 N) ∧ w'.cell? ⟨H, 1, none⟩ = some (.slice ao k c) ∧ w'.cell? ⟨b3, o3 + i, none⟩ = some (.string ⟨e.toArray⟩)) (by kernel_rfl) ?_
          show anyK _ _ _ _ _ _ 22 #[false, false, false, false, false, false, false, false, false, false, false, false, false, false, false, false, false, false, false, false, false, false] _ _
          refine anyK_take (i := 0) (v := ?_) rfl (by kernel_rfl) (by kernel_rfl) (by kernel_rfl) (N := 22) (by kernel_rfl) (by kernel_rfl) (by kernel_rfl) (fun _ _ _ h => h) (Or.inl ⟨by rfl, ?_⟩) (HSj.out _ Ew0) ?_
          rotate_left 1
          · intro w hSw
            go_simp
            try with_reducible rfl
          show anyK _ _ _ _ _ _ _ _ (Act.put _ (some 15) _) _
          simp only [Act.put, List.setIfInBounds_toArray, List.set_cons_zero, List.set_cons_succ]
          refine anyK_take (i := 1) (v := ?_) rfl (by kernel_rfl) (by kernel_rfl) (by kernel_rfl) (N := 22) (by kernel_rfl) (by kernel_rfl) (by kernel_rfl) (fun _ _ _ h => h) (Or.inl ⟨by rfl, ?_⟩) (HSj.out _ Ew0) ?_
          rotate_left 1
          · intro w hSw
            go_simp
            try with_reducible rfl
          show anyK _ _ _ _ _ _ _ _ (Act.put _ (some 16) _) _
          simp only [Act.put, List.setIfInBounds_toArray, List.set_cons_zero, List.set_cons_succ]
          refine anyK_take (i := 2) (v := ?_) rfl (by kernel_rfl) (by kernel_rfl) (by kernel_rfl) (N := 22) (by kernel_rfl) (by kernel_rfl) (by kernel_rfl) (fun _ _ _ h => h) (Or.inl ⟨by rfl, ?_⟩) (HSj.out _ Ew0) ?_
          rotate_left 1
          · intro w hSw
            go_simp
            try with_reducible rfl
          show anyK _ _ _ _ _ _ _ _ (Act.put _ (some 17) _) _
          simp only [Act.put, List.setIfInBounds_toArray, List.set_cons_zero, List.set_cons_succ]
          refine anyK_take (i := 3) (v := ?_) rfl (by kernel_rfl) (by kernel_rfl) (by kernel_rfl) (N := 22) (by kernel_rfl) (by kernel_rfl) (by kernel_rfl) (fun _ _ _ h => h) (Or.inl ⟨by rfl, ?_⟩) (HSj.out _ Ew0) ?_
          rotate_left 1
          · intro w hSw
            go_simp
            try with_reducible rfl
          show anyK _ _ _ _ _ _ _ _ (Act.put _ (some 18) _) _
          simp only [Act.put, List.setIfInBounds_toArray, List.set_cons_zero, List.set_cons_succ]
          refine anyK_take (i := 4) (v := ?_) rfl (by kernel_rfl) (by kernel_rfl) (by kernel_rfl) (N := 22) (by kernel_rfl) (by kernel_rfl) (by kernel_rfl) (fun _ _ _ h => h) (Or.inl ⟨by rfl, ?_⟩) (HSj.out _ Ew0) ?_
          rotate_left 1
          · intro w hSw
            go_simp
            try with_reducible rfl
          show anyK _ _ _ _ _ _ _ _ (Act.put _ (some 19) _) _
          simp only [Act.put, List.setIfInBounds_toArray, List.set_cons_zero, List.set_cons_succ]
          refine anyK_take (i := 5) (v := ?_) rfl (by kernel_rfl) (by kernel_rfl) (by kernel_rfl) (N := 22) (by kernel_rfl) (by kernel_rfl) (by kernel_rfl) (fun _ _ _ h => h) (Or.inl ⟨by rfl, ?_⟩) (HSj.out _ Ew0) ?_
          rotate_left 1
          · intro w hSw
            go_simp
            try with_reducible rfl
          show anyK _ _ _ _ _ _ _ _ (Act.put _ (some 20) _) _
          simp only [Act.put, List.setIfInBounds_toArray, List.set_cons_zero, List.set_cons_succ]
          refine anyK_take (i := 6) (v := ?_) rfl (by kernel_rfl) (by kernel_rfl) (by kernel_rfl) (N := 22) (by kernel_rfl) (by kernel_rfl) (by kernel_rfl) (fun _ _ _ h => h) (Or.inl ⟨by rfl, ?_⟩) (HSj.out _ Ew0) ?_
          rotate_left 1
          · intro w hSw
            go_simp
            try with_reducible rfl
          show anyK _ _ _ _ _ _ _ _ (Act.put _ (some 21) _) _
          simp only [Act.put, List.setIfInBounds_toArray, List.set_cons_zero, List.set_cons_succ]
          refine anyK_take (i := 8) (v := ?_) rfl (by kernel_rfl) (by kernel_rfl) (by kernel_rfl) (N := 22) (by kernel_rfl) (by kernel_rfl) (by kernel_rfl) (fun _ _ _ h => h) (Or.inl ⟨by rfl, ?_⟩) (HSj.out _ Ew0) ?_
          rotate_left 1
          · intro w hSw
            go_simp
            try with_reducible rfl
          show anyK _ _ _ _ _ _ _ _ (Act.put _ (some 23) _) _
          simp only [Act.put, List.setIfInBounds_toArray, List.set_cons_zero, List.set_cons_succ]
          refine anyK_one (i := 7) (by kernel_rfl) rfl (fun Kk hKk => ?_)
          go_simp
          (go_at_call 21; refine (HWe.out _).mono ?_; rintro e w5 ⟨rfl, hx⟩)
          have Ew5 : Ext wr w5 := Ew0.trans hx
          go_wp2_with fail
          refine hKk.out _ _ (fun _ => HSj.out _ Ew5) ?_
          clear hKk Kk hx
          simp only [List.setIfInBounds_toArray, List.set_cons_zero, List.set_cons_succ]
          refine anyK_one (i := 9) (by kernel_rfl) rfl (fun Kk hKk => ?_)
          go_simp
          (go_at_call 21; refine (HWb.out _).mono ?_; rintro e w6 ⟨rfl, hx⟩)
          have Ew6 : Ext wr w6 := Ew5.trans hx
          go_wp2_with fail
          refine hKk.out _ _ (fun _ => HSj.out _ Ew6) ?_
          clear hKk Kk hx
          simp only [List.setIfInBounds_toArray, List.set_cons_zero, List.set_cons_succ]
          refine anyK_take (i := 10) (v := ?_) rfl (by kernel_rfl) (by kernel_rfl) (by kernel_rfl) (N := 22) (by kernel_rfl) (by kernel_rfl) (by kernel_rfl) (fun _ _ _ h => h) (Or.inl ⟨by rfl, ?_⟩) (HSj.out _ Ew6) ?_
          rotate_left 1
          · intro w hSw
            go_simp
            try with_reducible rfl
          show anyK _ _ _ _ _ _ _ _ (Act.put _ (some 25) _) _
          simp only [Act.put, List.setIfInBounds_toArray, List.set_cons_zero, List.set_cons_succ]
          refine anyK_take (i := 11) (v := ?_) rfl (by kernel_rfl) (by kernel_rfl) (by kernel_rfl) (N := 22) (by kernel_rfl) (by kernel_rfl) (by kernel_rfl) (fun _ _ _ h => h) (Or.inl ⟨by rfl, ?_⟩) (HSj.out _ Ew6) ?_
          rotate_left 1
          · intro w hSw
            go_simp
            try with_reducible rfl
          show anyK _ _ _ _ _ _ _ _ (Act.put _ (some 26) _) _
          simp only [Act.put, List.setIfInBounds_toArray, List.set_cons_zero, List.set_cons_succ]
          refine anyK_take (i := 12) (v := ?_) rfl (by kernel_rfl) (by kernel_rfl) (by kernel_rfl) (N := 22) (by kernel_rfl) (by kernel_rfl) (by kernel_rfl) (fun _ _ _ h => h) (Or.inl ⟨by rfl, ?_⟩) (HSj.out _ Ew6) ?_
          rotate_left 1
          · intro w hSw
            go_simp
            try with_reducible rfl
          show anyK _ _ _ _ _ _ _ _ (Act.put _ (some 27) _) _
          simp only [Act.put, List.setIfInBounds_toArray, List.set_cons_zero, List.set_cons_succ]
          refine anyK_take (i := 13) (v := ?_) rfl (by kernel_rfl) (by kernel_rfl) (by kernel_rfl) (N := 22) (by kernel_rfl) (by kernel_rfl) (by kernel_rfl) (fun _ _ _ h => h) (Or.inl ⟨by rfl, ?_⟩) (HSj.out _ Ew6) ?_
          rotate_left 1
          · intro w hSw
            go_simp
            try with_reducible rfl
          show anyK _ _ _ _ _ _ _ _ (Act.put _ (some 28) _) _
          simp only [Act.put, List.setIfInBounds_toArray, List.set_cons_zero, List.set_cons_succ]
          refine anyK_take (i := 14) (v := ?_) rfl (by kernel_rfl) (by kernel_rfl) (by kernel_rfl) (N := 22) (by kernel_rfl) (by kernel_rfl) (by kernel_rfl) (fun _ _ _ h => h) (Or.inl ⟨by rfl, ?_⟩) (HSj.out _ Ew6) ?_
          rotate_left 1
          · intro w hSw
            go_simp
            try with_reducible rfl
          show anyK _ _ _ _ _ _ _ _ (Act.put _ (some 29) _) _
          simp only [Act.put, List.setIfInBounds_toArray, List.set_cons_zero, List.set_cons_succ]
          refine anyK_take (i := 15) (v := ?_) rfl (by kernel_rfl) (by kernel_rfl) (by kernel_rfl) (N := 22) (by kernel_rfl) (by kernel_rfl) (by kernel_rfl) (fun _ _ _ h => h) (Or.inl ⟨by rfl, ?_⟩) (HSj.out _ Ew6) ?_
          rotate_left 1
          · intro w hSw
            go_simp
            try with_reducible rfl
          show anyK _ _ _ _ _ _ _ _ (Act.put _ (some 30) _) _
          simp only [Act.put, List.setIfInBounds_toArray, List.set_cons_zero, List.set_cons_succ]
          refine anyK_take (i := 16) (v := ?_) rfl (by kernel_rfl) (by kernel_rfl) (by kernel_rfl) (N := 22) (by kernel_rfl) (by kernel_rfl) (by kernel_rfl) (fun _ _ _ h => h) (Or.inl ⟨by rfl, ?_⟩) (HSj.out _ Ew6) ?_
          rotate_left 1
          · intro w hSw
            go_simp
            try with_reducible rfl
          show anyK _ _ _ _ _ _ _ _ (Act.put _ (some 31) _) _
          simp only [Act.put, List.setIfInBounds_toArray, List.set_cons_zero, List.set_cons_succ]
          refine anyK_take (i := 17) (v := ?_) rfl (by kernel_rfl) (by kernel_rfl) (by kernel_rfl) (N := 22) (by kernel_rfl) (by kernel_rfl) (by kernel_rfl) (fun _ _ _ h => h) (Or.inl ⟨by rfl, ?_⟩) (HSj.out _ Ew6) ?_
          rotate_left 1
          · intro w hSw
            go_simp
            try with_reducible rfl
          show anyK _ _ _ _ _ _ _ _ (Act.put _ (some 32) _) _
          simp only [Act.put, List.setIfInBounds_toArray, List.set_cons_zero, List.set_cons_succ]
          refine anyK_take (i := 19) (v := ?_) rfl (by kernel_rfl) (by kernel_rfl) (by kernel_rfl) (N := 22) (by kernel_rfl) (by kernel_rfl) (by kernel_rfl) (fun _ _ _ h => h) (Or.inl ⟨by rfl, ?_⟩) (HSj.out _ Ew6) ?_
          rotate_left 1
          · intro w hSw
            go_simp
            try with_reducible rfl
          show anyK _ _ _ _ _ _ _ _ (Act.put _ (some 34) _) _
          simp only [Act.put, List.setIfInBounds_toArray, List.set_cons_zero, List.set_cons_succ]
          refine anyK_one (i := 18) (by kernel_rfl) rfl (fun Kk hKk => ?_)
          go_simp
          (go_at_call 15; refine (HSO.out _ Ew6).mono ?_; rintro e w8 ⟨⟨v8, rfl, hr8⟩, hx⟩)
          have Ew8 : Ext wr w8 := Ew6.trans hx
          obtain ⟨a8, c8, rfl, hac8, hcm8, hI8, _⟩ := ints_of_own hr8
          go_wp2_with fail
          refine hKk.out _ _ (fun _ => HSj.out _ Ew8) ?_
          clear hKk Kk hx
          simp only [List.setIfInBounds_toArray, List.set_cons_zero, List.set_cons_succ]
          refine anyK_one (i := 20) (by kernel_rfl) rfl (fun Kk hKk => ?_)
          go_simp
          (go_at_call 14; refine (sameInts_dec _ _ a8 k c8 bo bn bc w8 hI8 (HI.out.ext (HER.out.trans Ew8)) (by have := Hk.out; omega)).mono ?_; rintro e w9 ⟨rfl, hx⟩)
          have Ew9 : Ext wr w9 := Ew8.trans hx
          go_wp2_with fail
          refine hKk.out _ _ (fun _ => HSj.out _ Ew9) ?_
          clear hKk Kk hx
          simp only [List.setIfInBounds_toArray, List.set_cons_zero, List.set_cons_succ]
          refine anyK_one (i := 21) (by kernel_rfl) rfl (fun Kk hKk => ?_)
          go_wp2_with fail
          refine hKk.out _ _ (fun h => Bool.noConfusion (show true = false from h)) ?_
          clear hKk Kk
          simp only [List.setIfInBounds_toArray, List.set_cons_zero, List.set_cons_succ]
          refine anyK_done (by kernel_rfl) ?_ _
          go_wp2_with fail
          go_meet
          exact ⟨congrArg Value.bool HCq.out, Ew9⟩
        · have q2 : decide ((we : Int) < (wb : Int)) = false := decide_eq_false (by omega)
          have q2' : decide (we < wb) = false := decide_eq_false hlw
          have HCq := Lib.hid (show false = C by rw [← HCC.out, decide_eq_false hlw, Bool.and_false])
          clear hlw
          have Ew0 : Ext wr wr.drew := Below.drew (Ext.refl _)
          refine wp_region_K 21 (fun w' => w'.cell? ⟨H, 0, none⟩ = some (.int .i64 N) ∧ w'.cell? ⟨H, 1, none⟩ = some (.slice ao k c) ∧ w'.cell? ⟨b3, o3 + i, none⟩ = some (.string ⟨e.toArray⟩)) (by kernel_rfl) ?_
          show anyK _ _ _ _ _ _ 22 #[false, false, false, false, false, false, false, false, false, false, false, false, false, false, false, false, false, false, false, false, false, false] _ _
          refine anyK_take (i := 0) (v := ?_) rfl (by kernel_rfl) (by kernel_rfl) (by kernel_rfl) (N := 22) (by kernel_rfl) (by kernel_rfl) (by kernel_rfl) (fun _ _ _ h => h) (Or.inl ⟨by rfl, ?_⟩) (HSj.out _ Ew0) ?_
          rotate_left 1
          · intro w hSw
            go_simp
            try with_reducible rfl
          show anyK _ _ _ _ _ _ _ _ (Act.put _ (some 15) _) _
          simp only [Act.put, List.setIfInBounds_toArray, List.set_cons_zero, List.set_cons_succ]
          refine anyK_take (i := 1) (v := ?_) rfl (by kernel_rfl) (by kernel_rfl) (by kernel_rfl) (N := 22) (by kernel_rfl) (by kernel_rfl) (by kernel_rfl) (fun _ _ _ h => h) (Or.inl ⟨by rfl, ?_⟩) (HSj.out _ Ew0) ?_
          rotate_left 1
          · intro w hSw
            go_simp
            try with_reducible rfl
          show anyK _ _ _ _ _ _ _ _ (Act.put _ (some 16) _) _
          simp only [Act.put, List.setIfInBounds_toArray, List.set_cons_zero, List.set_cons_succ]
          refine anyK_take (i := 2) (v := ?_) rfl (by kernel_rfl) (by kernel_rfl) (by kernel_rfl) (N := 22) (by kernel_rfl) (by kernel_rfl) (by kernel_rfl) (fun _ _ _ h => h) (Or.inl ⟨by rfl, ?_⟩) (HSj.out _ Ew0) ?_
          rotate_left 1
          · intro w hSw
            go_simp
            try with_reducible rfl
          show anyK _ _ _ _ _ _ _ _ (Act.put _ (some 17) _) _
          simp only [Act.put, List.setIfInBounds_toArray, List.set_cons_zero, List.set_cons_succ]
          refine anyK_take (i := 3) (v := ?_) rfl (by kernel_rfl) (by kernel_rfl) (by kernel_rfl) (N := 22) (by kernel_rfl) (by kernel_rfl) (by kernel_rfl) (fun _ _ _ h => h) (Or.inl ⟨by rfl, ?_⟩) (HSj.out _ Ew0) ?_
          rotate_left 1
          · intro w hSw
            go_simp
            try with_reducible rfl
          show anyK _ _ _ _ _ _ _ _ (Act.put _ (some 18) _) _
          simp only [Act.put, List.setIfInBounds_toArray, List.set_cons_zero, List.set_cons_succ]
          refine anyK_take (i := 4) (v := ?_) rfl (by kernel_rfl) (by kernel_rfl) (by kernel_rfl) (N := 22) (by kernel_rfl) (by kernel_rfl) (by kernel_rfl) (fun _ _ _ h => h) (Or.inl ⟨by rfl, ?_⟩) (HSj.out _ Ew0) ?_
          rotate_left 1
          · intro w hSw
            go_simp
            try with_reducible rfl
          show anyK _ _ _ _ _ _ _ _ (Act.put _ (some 19) _) _
          simp only [Act.put, List.setIfInBounds_toArray, List.set_cons_zero, List.set_cons_succ]
          refine anyK_take (i := 5) (v := ?_) rfl (by kernel_rfl) (by kernel_rfl) (by kernel_rfl) (N := 22) (by kernel_rfl) (by kernel_rfl) (by kernel_rfl) (fun _ _ _ h => h) (Or.inl ⟨by rfl, ?_⟩) (HSj.out _ Ew0) ?_
          rotate_left 1
          · intro w hSw
            go_simp
            try with_reducible rfl
          show anyK _ _ _ _ _ _ _ _ (Act.put _ (some 20) _) _
          simp only [Act.put, List.setIfInBounds_toArray, List.set_cons_zero, List.set_cons_succ]
          refine anyK_take (i := 6) (v := ?_) rfl (by kernel_rfl) (by kernel_rfl) (by kernel_rfl) (N := 22) (by kernel_rfl) (by kernel_rfl) (by kernel_rfl) (fun _ _ _ h => h) (Or.inl ⟨by rfl, ?_⟩) (HSj.out _ Ew0) ?_
          rotate_left 1
          · intro w hSw
            go_simp
            try with_reducible rfl
          show anyK _ _ _ _ _ _ _ _ (Act.put _ (some 21) _) _
          simp only [Act.put, List.setIfInBounds_toArray, List.set_cons_zero, List.set_cons_succ]
          refine anyK_take (i := 8) (v := ?_) rfl (by kernel_rfl) (by kernel_rfl) (by kernel_rfl) (N := 22) (by kernel_rfl) (by kernel_rfl) (by kernel_rfl) (fun _ _ _ h => h) (Or.inl ⟨by rfl, ?_⟩) (HSj.out _ Ew0) ?_
          rotate_left 1
          · intro w hSw
            go_simp
            try with_reducible rfl
          show anyK _ _ _ _ _ _ _ _ (Act.put _ (some 23) _) _
          simp only [Act.put, List.setIfInBounds_toArray, List.set_cons_zero, List.set_cons_succ]
          refine anyK_one (i := 7) (by kernel_rfl) rfl (fun Kk hKk => ?_)
          go_simp
          (go_at_call 21; refine (HWe.out _).mono ?_; rintro e w5 ⟨rfl, hx⟩)
          have Ew5 : Ext wr w5 := Ew0.trans hx
          go_wp2_with fail
          refine hKk.out _ _ (fun _ => HSj.out _ Ew5) ?_
          clear hKk Kk hx
          simp only [List.setIfInBounds_toArray, List.set_cons_zero, List.set_cons_succ]
          refine anyK_one (i := 9) (by kernel_rfl) rfl (fun Kk hKk => ?_)
          go_simp
          (go_at_call 21; refine (HWb.out _).mono ?_; rintro e w6 ⟨rfl, hx⟩)
          have Ew6 : Ext wr w6 := Ew5.trans hx
          go_wp2_with fail
          refine hKk.out _ _ (fun _ => HSj.out _ Ew6) ?_
          clear hKk Kk hx
          simp only [List.setIfInBounds_toArray, List.set_cons_zero, List.set_cons_succ]
          refine anyK_take (i := 10) (v := ?_) rfl (by kernel_rfl) (by kernel_rfl) (by kernel_rfl) (N := 22) (by kernel_rfl) (by kernel_rfl) (by kernel_rfl) (fun _ _ _ h => h) (Or.inl ⟨by rfl, ?_⟩) (HSj.out _ Ew6) ?_
          rotate_left 1
          · intro w hSw
            go_simp
            try with_reducible rfl
          show anyK _ _ _ _ _ _ _ _ (Act.put _ (some 25) _) _
          simp only [Act.put, List.setIfInBounds_toArray, List.set_cons_zero, List.set_cons_succ]
          refine anyK_take (i := 11) (v := ?_) rfl (by kernel_rfl) (by kernel_rfl) (by kernel_rfl) (N := 22) (by kernel_rfl) (by kernel_rfl) (by kernel_rfl) (fun _ _ _ h => h) (Or.inl ⟨by rfl, ?_⟩) (HSj.out _ Ew6) ?_
          rotate_left 1
          · intro w hSw
            go_simp
            try with_reducible rfl
          show anyK _ _ _ _ _ _ _ _ (Act.put _ (some 26) _) _
          simp only [Act.put, List.setIfInBounds_toArray, List.set_cons_zero, List.set_cons_succ]
          refine anyK_take (i := 12) (v := ?_) rfl (by kernel_rfl) (by kernel_rfl) (by kernel_rfl) (N := 22) (by kernel_rfl) (by kernel_rfl) (by kernel_rfl) (fun _ _ _ h => h) (Or.inl ⟨by rfl, ?_⟩) (HSj.out _ Ew6) ?_
          rotate_left 1
          · intro w hSw
            go_simp
            try with_reducible rfl
          show anyK _ _ _ _ _ _ _ _ (Act.put _ (some 27) _) _
          simp only [Act.put, List.setIfInBounds_toArray, List.set_cons_zero, List.set_cons_succ]
          refine anyK_take (i := 13) (v := undef) rfl (by kernel_rfl) (by kernel_rfl) (by kernel_rfl) (N := 22) (by kernel_rfl) (by kernel_rfl) (by kernel_rfl) (fun _ _ _ h => h) (Or.inr ⟨by rfl, rfl⟩) (HSj.out _ Ew6) ?_
          show anyK _ _ _ _ _ _ _ _ (Act.put _ (some 28) _) _
          simp only [Act.put, List.setIfInBounds_toArray, List.set_cons_zero, List.set_cons_succ]
          refine anyK_take (i := 14) (v := undef) rfl (by kernel_rfl) (by kernel_rfl) (by kernel_rfl) (N := 22) (by kernel_rfl) (by kernel_rfl) (by kernel_rfl) (fun _ _ _ h => h) (Or.inr ⟨by rfl, rfl⟩) (HSj.out _ Ew6) ?_
          show anyK _ _ _ _ _ _ _ _ (Act.put _ (some 29) _) _
          simp only [Act.put, List.setIfInBounds_toArray, List.set_cons_zero, List.set_cons_succ]
          refine anyK_take (i := 15) (v := undef) rfl (by kernel_rfl) (by kernel_rfl) (by kernel_rfl) (N := 22) (by kernel_rfl) (by kernel_rfl) (by kernel_rfl) (fun _ _ _ h => h) (Or.inr ⟨by rfl, rfl⟩) (HSj.out _ Ew6) ?_
          show anyK _ _ _ _ _ _ _ _ (Act.put _ (some 30) _) _
          simp only [Act.put, List.setIfInBounds_toArray, List.set_cons_zero, List.set_cons_succ]
          refine anyK_take (i := 16) (v := undef) rfl (by kernel_rfl) (by kernel_rfl) (by kernel_rfl) (N := 22) (by kernel_rfl) (by kernel_rfl) (by kernel_rfl) (fun _ _ _ h => h) (Or.inr ⟨by rfl, rfl⟩) (HSj.out _ Ew6) ?_
          show anyK _ _ _ _ _ _ _ _ (Act.put _ (some 31) _) _
          simp only [Act.put, List.setIfInBounds_toArray, List.set_cons_zero, List.set_cons_succ]
          refine anyK_take (i := 17) (v := undef) rfl (by kernel_rfl) (by kernel_rfl) (by kernel_rfl) (N := 22) (by kernel_rfl) (by kernel_rfl) (by kernel_rfl) (fun _ _ _ h => h) (Or.inr ⟨by rfl, rfl⟩) (HSj.out _ Ew6) ?_
          show anyK _ _ _ _ _ _ _ _ (Act.put _ (some 32) _) _
          simp only [Act.put, List.setIfInBounds_toArray, List.set_cons_zero, List.set_cons_succ]
          refine anyK_take (i := 18) (v := undef) rfl (by kernel_rfl) (by kernel_rfl) (by kernel_rfl) (N := 22) (by kernel_rfl) (by kernel_rfl) (by kernel_rfl) (fun _ _ _ h => h) (Or.inr ⟨by rfl, rfl⟩) (HSj.out _ Ew6) ?_
          show anyK _ _ _ _ _ _ _ _ (Act.put _ (some 33) _) _
          simp only [Act.put, List.setIfInBounds_toArray, List.set_cons_zero, List.set_cons_succ]
          refine anyK_take (i := 19) (v := undef) rfl (by kernel_rfl) (by kernel_rfl) (by kernel_rfl) (N := 22) (by kernel_rfl) (by kernel_rfl) (by kernel_rfl) (fun _ _ _ h => h) (Or.inr ⟨by rfl, rfl⟩) (HSj.out _ Ew6) ?_
          show anyK _ _ _ _ _ _ _ _ (Act.put _ (some 34) _) _
          simp only [Act.put, List.setIfInBounds_toArray, List.set_cons_zero, List.set_cons_succ]
          refine anyK_take (i := 20) (v := undef) rfl (by kernel_rfl) (by kernel_rfl) (by kernel_rfl) (N := 22) (by kernel_rfl) (by kernel_rfl) (by kernel_rfl) (fun _ _ _ h => h) (Or.inr ⟨by rfl, rfl⟩) (HSj.out _ Ew6) ?_
          show anyK _ _ _ _ _ _ _ _ (Act.put _ (some 35) _) _
          simp only [Act.put, List.setIfInBounds_toArray, List.set_cons_zero, List.set_cons_succ]
          refine anyK_one (i := 21) (by kernel_rfl) rfl (fun Kk hKk => ?_)
          go_wp2_with fail
          refine hKk.out _ _ (fun h => Bool.noConfusion (show true = false from h)) ?_
          clear hKk Kk
          simp only [List.setIfInBounds_toArray, List.set_cons_zero, List.set_cons_succ]
          refine anyK_done (by kernel_rfl) ?_ _
          go_wp2_with fail
          go_meet
          exact ⟨congrArg Value.bool HCq.out, Ew6⟩
    case rest =>
      obtain ⟨rfl, hx⟩ := hcut
      have HX := Lib.hid (HER.out.trans hx)
      have c0' := cell_ext c0 hx
      clear hx c0 v0 v1
      cases C
      · have Hb2 := Lib.hid (show bst wtT (synQ gens s) (es.take (i + 1)) = o by have := Hbst.out; simpa using this)
        go_wp2_with fail
        go_roundg (en - (i + 1))
        case measure => have := Hkk.out; have := Hlt.out; omega
        case rel => exact ⟨HX.out, i + 1, rfl, Hlt.out, rfl, by rw [Hb2.out]⟩
      · have Hb2 := Lib.hid (show bst wtT (synQ gens s) (es.take (i + 1)) = some e by have := Hbst.out; simpa using this)
        go_wp2_with fail
        go_roundg (en - (i + 1))
        case measure => have := Hkk.out; have := Hlt.out; omega
        case rel => exact ⟨HX.out, i + 1, rfl, Hlt.out, rfl, by rw [Hb2.out]; rfl⟩
end Go.Proofs.YtfoncakadficlaaDoor
