/-
  Both sides: a way home is of stabilizer gates alone. The program: a Pauli's text, with its sign; the text of what was read. The program: tableau.Image of a way home undone. CodeEncodes, in plain lists: the text of what was read; the Zs' texts; what the encoder makes of them. CodeEncodes' walk. CodeEncodes' walk where the code has no fault. A circuit that was handed in, opened: its operations and their lists as they lie in memory. The table of kinds, as it is laid; what is asked behind a call that leaves all that lay there as it was.
-/
import Derived.Test.YtbmjobpobjfjeaaDoorProg
import Derived.Test.YtbmjobpobjfjeaaDoorRows
import Derived.BigQuiet
import Derived.Carry
import Derived.ChangeSame
import Derived.Deep.AppendLies
import Derived.Deep.Cut
import Derived.Deep.CutRange
import Derived.Deep.LoopGhost
import Derived.Deep.QuietTactic
import Derived.Deep.RegionHeld3
import Derived.Deep.Slices
import Derived.DeepKeys4
import Derived.Defers
import Derived.FnData
import Derived.Laws.AppendOwnNone
import Derived.Laws.Bits64b
import Derived.Laws.Concat
import Derived.Laws.CopyOwn
import Derived.Laws.IdiomStrings
import Derived.Laws.ResultCell
import Derived.Lib.AppendStr
import Derived.Lib.AppendZeros
import Derived.Lib.AppendZerosOnto
import Derived.Lib.BitFns
import Derived.Lib.Hide
import Derived.Lib.ItoaMem
import Derived.Lib.ItoaNum
import Derived.Lib.SliceRun
import Derived.Lib.Strings
import Derived.LoopIn
import Derived.LoopNIn
import Derived.Maps.AppendAt
import Derived.Maps.OwnSet
import Derived.OpenShut
import Derived.OwnWalk
import Derived.OwnWalkIn
import Derived.RangeFuncBound
import Derived.RangeFuncBox
import Derived.RangeFuncCalls
import Derived.RangeFuncGives
import Derived.RangeFuncLeaves
import Derived.RangeFuncNested
import Derived.RangeFuncStops
import Derived.Recover
import Derived.Shelf.Abstract
import Derived.Shelf.Bits.Mul64
import Derived.Shelf.RegionOpen
import Derived.Shelf.Small.Bits
import Derived.Shelf.Small.Strs
import Derived.Shelf.Strings.Search1
import Derived.SizedLaws
import Derived.Sort.MapsRangeIn
import Derived.Stop.LaidErr
import Derived.TacticsInMore
import Derived.WalkKit
import Derived.WalkLawsBesides
import Derived.WalkSpells
import Derived.Test.YtbmjobpobjfjeaaDoorS00Ca
import Derived.Test.YtbmjobpobjfjeaaDoorShelf
import Derived.Test.YtbmjobpobjfjeaaDoorS02Cn
import Derived.Test.YtbmjobpobjfjeaaDoorS03Ib
import Derived.Test.YtbmjobpobjfjeaaDoorS04Ij
import Derived.Test.YtbmjobpobjfjeaaDoorS05Ir
import Derived.Test.YtbmjobpobjfjeaaDoorS06Is
import Derived.Test.YtbmjobpobjfjeaaDoorS07It
import Derived.Test.YtbmjobpobjfjeaaDoorS08Ix
import Derived.Test.YtbmjobpobjfjeaaDoorS09Aa
import Derived.Test.YtbmjobpobjfjeaaDoorS10Dd
import Derived.Test.YtbmjobpobjfjeaaDoorS11Bl
import Derived.Test.YtbmjobpobjfjeaaDoorS12Kg
import Derived.Test.YtbmjobpobjfjeaaDoorS13Bn
import Derived.Test.YtbmjobpobjfjeaaDoorS14Bu
import Derived.Test.YtbmjobpobjfjeaaDoorS15Pt
namespace Go.Proofs.YtbmjobpobjfjeaaDoor
open Go.RowKit

set_option maxRecDepth 100000 in
set_option maxHeartbeats 2000000 in
theorem isNormal_any {n : Nat} {o : Gop} (ho : WOk n o) (a1 : Option Addr) (n1 c1 : Nat) (a2 : Option Addr) (n2 c2 : Nat) (w : World) (hl : o.ctl.length = n1) :
    Calls Tryd.prog 67 #[.agg #[.int .i64 o.kind, .int .i64 o.k, .slice a1 n1 c1, .int .i64 o.q, .int .i64 o.bit, .slice a2 n2 c2]] w fun e w' => e = .returned (.bool true) ∧ Ext w w' := by
  cases ho with
  | @x q h =>
    obtain rfl : 0 = n1 := hl
    show Calls Tryd.prog 67 #[.agg #[.int .i64 2, .int .i64 0, .slice a1 0 c1, .int .i64 (q : Int), .int .i64 0, .slice a2 n2 c2]] w _
    clear h
    go_enter Tryd.func67, Tryd.ntmps67
    go_wp2_with fail
    go_ret
    exact ⟨rfl, ext_al _ _⟩
  | @cx q c h h2 h3 =>
    obtain rfl : 1 = n1 := hl
    show Calls Tryd.prog 67 #[.agg #[.int .i64 2, .int .i64 0, .slice a1 1 c1, .int .i64 (q : Int), .int .i64 0, .slice a2 n2 c2]] w _
    clear h h2 h3
    go_enter Tryd.func67, Tryd.ntmps67
    go_wp2_with fail
    go_ret
    exact ⟨rfl, ext_al _ _⟩
  | @h q h =>
    obtain rfl : 0 = n1 := hl
    show Calls Tryd.prog 67 #[.agg #[.int .i64 3, .int .i64 0, .slice a1 0 c1, .int .i64 (q : Int), .int .i64 0, .slice a2 n2 c2]] w _
    clear h
    go_enter Tryd.func67, Tryd.ntmps67
    go_wp2_with fail
    go_ret
    exact ⟨rfl, ext_al _ _⟩
  | @p q k h hk =>
    obtain rfl : 0 = n1 := hl
    rcases hk with rfl | rfl
    · show Calls Tryd.prog 67 #[.agg #[.int .i64 4, .int .i64 4, .slice a1 0 c1, .int .i64 (q : Int), .int .i64 0, .slice a2 n2 c2]] w _
      clear h
      go_enter Tryd.func67, Tryd.ntmps67
      go_wp2_with fail
      go_ret
      exact ⟨rfl, ext_al _ _⟩
    · show Calls Tryd.prog 67 #[.agg #[.int .i64 4, .int .i64 12, .slice a1 0 c1, .int .i64 (q : Int), .int .i64 0, .slice a2 n2 c2]] w _
      clear h
      go_enter Tryd.func67, Tryd.ntmps67
      go_wp2_with fail
      go_ret
      exact ⟨rfl, ext_al _ _⟩

set_option maxRecDepth 100000 in
set_option maxHeartbeats 2000000 in
theorem normalOp_any {n : Nat} {o : Gop} (ho : WOk n o) (a1 : Option Addr) (n1 c1 : Nat) (a2 : Option Addr) (n2 c2 : Nat) (w : World) (hl : o.ctl.length = n1) :
    Calls Tryd.prog 24 #[.agg #[.int .i64 o.kind, .int .i64 o.k, .slice a1 n1 c1, .int .i64 o.q, .int .i64 o.bit, .slice a2 n2 c2]] w fun e w' => e = .returned (.bool true) ∧ Ext w w' := by
  cases ho with
  | @x q h =>
    obtain rfl : 0 = n1 := hl
    show Calls Tryd.prog 24 #[.agg #[.int .i64 2, .int .i64 0, .slice a1 0 c1, .int .i64 (q : Int), .int .i64 0, .slice a2 n2 c2]] w _
    clear h
    go_enter Tryd.func24, Tryd.ntmps24
    go_wp2_with fail
    go_ret
    exact ⟨rfl, ext_al _ _⟩
  | @cx q c h h2 h3 =>
    obtain rfl : 1 = n1 := hl
    show Calls Tryd.prog 24 #[.agg #[.int .i64 2, .int .i64 0, .slice a1 1 c1, .int .i64 (q : Int), .int .i64 0, .slice a2 n2 c2]] w _
    clear h h2 h3
    go_enter Tryd.func24, Tryd.ntmps24
    go_wp2_with fail
    go_ret
    exact ⟨rfl, ext_al _ _⟩
  | @h q h =>
    obtain rfl : 0 = n1 := hl
    show Calls Tryd.prog 24 #[.agg #[.int .i64 3, .int .i64 0, .slice a1 0 c1, .int .i64 (q : Int), .int .i64 0, .slice a2 n2 c2]] w _
    clear h
    go_enter Tryd.func24, Tryd.ntmps24
    go_wp2_with fail
    go_ret
    exact ⟨rfl, ext_al _ _⟩
  | @p q k h hk =>
    obtain rfl : 0 = n1 := hl
    rcases hk with rfl | rfl
    · show Calls Tryd.prog 24 #[.agg #[.int .i64 4, .int .i64 4, .slice a1 0 c1, .int .i64 (q : Int), .int .i64 0, .slice a2 n2 c2]] w _
      clear h
      go_enter Tryd.func24, Tryd.ntmps24
      go_wp2_with fail
      go_ret
      exact ⟨rfl, ext_al _ _⟩
    · show Calls Tryd.prog 24 #[.agg #[.int .i64 4, .int .i64 12, .slice a1 0 c1, .int .i64 (q : Int), .int .i64 0, .slice a2 n2 c2]] w _
      clear h
      go_enter Tryd.func24, Tryd.ntmps24
      go_wp2_with fail
      go_ret
      exact ⟨rfl, ext_al _ _⟩

set_option maxRecDepth 100000 in
set_option maxHeartbeats 4000000 in
theorem checkNormal_any {n : Nat} (ops : List Gop) (hok : ∀ o ∈ ops, WOk n o) (ao : Option Addr) (m c : Nat) (w : World) (h : OpsAt w ao m ops) (hm : m ≤ 10000) :
    Calls Tryd.prog 47 #[.slice ao m c] w fun e w' => e = .returned (.agg #[.int .i64 0, .int .i64 0]) ∧ Ext w w' := by
  obtain ⟨W0, hW0⟩ : ∃ V, w.alloc (.cells #[.int .i64 0, .int .i64 0] 29) = V := ⟨_, rfl⟩
  obtain ⟨H, hH⟩ : ∃ H, w.heap.size = H := ⟨_, rfl⟩
  have E0 : Ext w W0 := by rw [← hW0]; exact ext_al _ _
  have bF : FtB W0 H 0 0 := by rw [← hW0, ← hH]; exact ⟨heap_alloc_new w _⟩
  have Hh := Lib.hid (h.ext E0); have HF := Lib.hid bF; have HE0 := Lib.hid E0; have HW0 := Lib.hid hW0; have HH := Lib.hid hH; have Hok := Lib.hid hok; have Hm := Lib.hid hm
  have Hl := Lib.hid h.1
  clear h bF E0 hW0 hH hok hm
  go_enter Tryd.func47, Tryd.ntmps47
  go_upto_region 1 with fail
  rw [HW0.out, HH.out]
  go_wp2_with fail
  go_loopg [7] m (fun kk s7 wr => ∃ i : Nat, s7 = .int .i64 (i : Int) ∧ i ≤ m ∧ m - i = kk ∧ Ext W0 wr)
  case atStart => exact ⟨0, rfl, Nat.zero_le _, rfl, Ext.refl _⟩
  case round =>
    obtain ⟨i, rfl, hi, hkk, hE⟩ := hrel
    have Hkk := Lib.hid hkk; have HE := Lib.hid hE
    by_cases him : i = m
    · have p1 : ¬ (i : Int) < (m : Int) := by omega
      have bz := HF.out.ext hE
      have x0' := bz.x0; have x1' := bz.x1; have g0' := bz.f 0; have g1' := bz.f 1
      clear hkk hE hi him bz
      go_wp2_with fail
      exact bodyPost_ret (v := .agg #[.int .i64 0, .int .i64 0]) (by simp [results, Tryd.results47, go_sem, x0', x1']) rfl ⟨rfl, put2x (HE0.out.trans HE.out) (Nat.le_of_eq HH.out) _ _⟩
    have hlt : i < m := by omega
    have p1 : (i : Int) < (m : Int) := by omega
    have p0 : (0 : Int) ≤ (i : Int) := by omega
    have wi : IntKind.i64.wrap ((i : Int) + 1) = ((i + 1 : Nat) : Int) := by rw [IntKind.wrap_i64]; have := Hm.out; omega
    obtain ⟨b, o, rfl⟩ := Hh.out.some_of (by omega)
    obtain ⟨g, hg⟩ : ∃ g, ops[i]? = some g := ⟨_, List.getElem?_eq_getElem (by rw [Hl.out]; exact hlt)⟩
    obtain ⟨a1, n1, c1, a2, n2, c2, e0, e1, e2, e3, e4, e5, hol⟩ := (Hh.out.ext hE).at i g hg
    have HN := Lib.hid (fun wx => isNormal_any (Hok.out g (List.mem_of_getElem? hg)) a1 n1 c1 a2 n2 c2 wx hol.i1.1)
    have Hlt := Lib.hid hlt
    clear hkk hE hi him hlt hg hol
    go_wp2_with fail
    refine (HN.out _).mono ?_
    rintro e w3 ⟨rfl, x3⟩
    have H3 := Lib.hid ((HE.out.trans (ext_al wr _)).trans x3)
    clear x3 e0 e1 e2 e3 e4 e5
    go_wp2_with fail
    go_roundg (m - (i + 1))
    case measure => have := Hkk.out; have := Hlt.out; omega
    case rel => exact ⟨i + 1, rfl, Hlt.out, rfl, H3.out⟩

set_option maxRecDepth 100000 in
set_option maxHeartbeats 4000000 in
theorem NormalFault_any {n : Nat} (qb : Int) (ops : List Gop) (hok : ∀ o ∈ ops, WOk n o) (ao : Option Addr) (m c : Nat) (w : World) (h : OpsAt w ao m ops) (hm : m ≤ 10000) :
    Calls Tryd.prog 10 #[.agg #[.int .i64 qb, .int .i64 0, .slice ao m c]] w fun e w' => e = .returned (.agg #[.int .i64 0, .int .i64 0]) ∧ Ext w w' := by
  obtain ⟨W0, hW0⟩ : ∃ V, (w.alloc (.cells #[.int .i64 qb, .int .i64 0, .slice ao m c] 27)).alloc (.cells #[.int .i64 0, .int .i64 0] 29) = V := ⟨_, rfl⟩
  obtain ⟨H, hH⟩ : ∃ H, w.heap.size = H := ⟨_, rfl⟩
  have E0 : Ext w W0 := by rw [← hW0]; exact (ext_al _ _).trans (ext_al _ _)
  have bC : CiB W0 H qb 0 ao m c := by rw [← hW0, ← hH]; exact CiB.ext ⟨heap_alloc_new w _⟩ (ext_al _ _)
  have bF : FtB W0 (H + 1) 0 0 := ⟨by
    have := heap_alloc_new (w.alloc (.cells #[.int .i64 qb, .int .i64 0, .slice ao m c] 27)) (.cells #[.int .i64 0, .int .i64 0] 29)
    rw [← hW0, ← hH]
    simpa using this⟩
  have Hh := Lib.hid (h.ext E0); have HF := Lib.hid bF; have HC := Lib.hid bC; have HE0 := Lib.hid E0; have HW0 := Lib.hid hW0; have HH := Lib.hid hH; have Hok := Lib.hid hok; have Hm := Lib.hid hm
  have Hl := Lib.hid h.1
  clear h bF bC E0 hW0 hH hok hm
  go_enter Tryd.func10, Tryd.ntmps10
  go_upto_region 1 with fail
  rw [HW0.out, HH.out]
  go_wp2_with fail
  go_loopg [3] m (fun kk s3 wr => ∃ i : Nat, s3 = .int .i64 (i : Int) ∧ i ≤ m ∧ m - i = kk ∧ Ext W0 wr)
  case atStart => exact ⟨0, rfl, Nat.zero_le _, rfl, Ext.refl _⟩
  case round =>
    obtain ⟨i, rfl, hi, hkk, hE⟩ := hrel
    have Hkk := Lib.hid hkk; have HE := Lib.hid hE
    have hc2 := (HC.out.ext hE).x2
    by_cases him : i = m
    · have p1 : ¬ (i : Int) < (m : Int) := by omega
      have bz := HF.out.ext hE
      have x0' := bz.x0; have x1' := bz.x1; have g0' := bz.f 0; have g1' := bz.f 1
      clear hkk hE hi him bz
      go_wp2_with fail
      exact bodyPost_ret (v := .agg #[.int .i64 0, .int .i64 0]) (by simp [results, Tryd.results10, go_sem, x0', x1']) rfl ⟨rfl, put2x (HE0.out.trans HE.out) (by have := HH.out; omega) _ _⟩
    have hlt : i < m := by omega
    have p1 : (i : Int) < (m : Int) := by omega
    have p0 : (0 : Int) ≤ (i : Int) := by omega
    have wi : IntKind.i64.wrap ((i : Int) + 1) = ((i + 1 : Nat) : Int) := by rw [IntKind.wrap_i64]; have := Hm.out; omega
    obtain ⟨b, o, rfl⟩ := Hh.out.some_of (by omega)
    obtain ⟨g, hg⟩ : ∃ g, ops[i]? = some g := ⟨_, List.getElem?_eq_getElem (by rw [Hl.out]; exact hlt)⟩
    obtain ⟨a1, n1, c1, a2, n2, c2, e0, e1, e2, e3, e4, e5, hol⟩ := (Hh.out.ext hE).at i g hg
    have HN := Lib.hid (fun wx => normalOp_any (Hok.out g (List.mem_of_getElem? hg)) a1 n1 c1 a2 n2 c2 wx hol.i1.1)
    have Hlt := Lib.hid hlt
    clear hkk hE hi him hlt hg hol
    go_wp2_with fail
    refine (HN.out _).mono ?_
    rintro e w3 ⟨rfl, x3⟩
    have H3 := Lib.hid (HE.out.trans x3)
    clear x3 e0 e1 e2 e3 e4 e5 hc2
    go_wp2_with fail
    go_roundg (m - (i + 1))
    case measure => have := Hkk.out; have := Hlt.out; omega
    case rel => exact ⟨i + 1, rfl, Hlt.out, rfl, H3.out⟩

set_option maxRecDepth 100000 in
set_option maxHeartbeats 4000000 in
theorem checkGates_any {n : Nat} (h1 : 1 ≤ n) (hn : n ≤ 12) (ops : List Gop) (hok : ∀ o ∈ ops, WOk n o) (ao : Option Addr) (m c : Nat) (w : World) (h : OpsAt w ao m ops) (hm : m ≤ 4096) (hmc : m ≤ c) (hc : c ≤ 9223372036854775807) (hS : Shp w) :
    Calls Tryd.prog 25 #[.agg #[.int .i64 (n : Int), .int .i64 0, .slice ao m c]] w fun e w' => e = .returned (.agg #[.int .i64 0, .int .i64 0]) ∧ Ext w w' := by
  obtain ⟨W0, hW0⟩ : ∃ V, (w.alloc (.cells #[.int .i64 (n : Int), .int .i64 0, .slice ao m c] 27)).alloc (.cells #[.int .i64 0, .int .i64 0] 29) = V := ⟨_, rfl⟩
  obtain ⟨H, hH⟩ : ∃ H, w.heap.size = H := ⟨_, rfl⟩
  have E0 : Ext w W0 := by rw [← hW0]; exact (ext_al _ _).trans (ext_al _ _)
  have bC : CiB W0 H (n : Int) 0 ao m c := by rw [← hW0, ← hH]; exact CiB.ext ⟨heap_alloc_new w _⟩ (ext_al _ _)
  have bF : FtB W0 (H + 1) 0 0 := ⟨by
    have := heap_alloc_new (w.alloc (.cells #[.int .i64 (n : Int), .int .i64 0, .slice ao m c] 27)) (.cells #[.int .i64 0, .int .i64 0] 29)
    rw [← hW0, ← hH]
    simpa using this⟩
  have hp := Pure_any ⟨(n : Int), 0, ops⟩ ao m c W0 (h.ext E0) hmc hc (hS.ext E0)
  rw [way_pur h1 hn hok (by rw [h.1]; exact hm)] at hp
  have HP := Lib.hid hp
  have HCn := Lib.hid (fun wx (hx : Ext W0 wx) => checkNormal_any ops hok ao m c wx ((h.ext E0).ext hx) (by omega))
  have HF := Lib.hid bF; have HC := Lib.hid bC; have HE0 := Lib.hid E0; have HW0 := Lib.hid hW0; have HH := Lib.hid hH
  have v0 := bC.x0; have v1 := bC.x1; have v2 := bC.x2
  clear h bF bC E0 hW0 hH hok hm hmc hc hS hp h1 hn
  go_enter Tryd.func25, Tryd.ntmps25
  go_upto_region 1 with fail
  rw [HW0.out, HH.out]
  go_wp2_with fail
  refine HP.out.mono ?_
  rintro e w1 ⟨rfl, x1⟩
  have Hx1 := Lib.hid x1
  clear x1
  go_upto_region 2 with fail
  obtain ⟨W1, hW1⟩ : ∃ V, w1.alloc (.cells #[.int .i64 0, .int .i64 0] 29) = V := ⟨_, rfl⟩
  have E1 : Ext W0 W1 := by rw [← hW1]; exact Hx1.out.trans (ext_al _ _)
  have b1 : FtB W1 w1.heap.size 0 0 := by rw [← hW1]; exact ⟨heap_alloc_new w1 _⟩
  have HE1 := Lib.hid E1
  have HCc := Lib.hid (HCn.out W1 E1)
  have u0 := b1.x0; have c2 := (HC.out.ext E1).x2
  rw [hW1]
  clear E1 b1 v0 v1 v2 hW1
  go_wp2_with fail
  refine HCc.out.mono ?_
  rintro e w2 ⟨rfl, x2⟩
  have bz := HF.out.ext (HE1.out.trans x2)
  have x0' := bz.x0; have x1' := bz.x1; have g0' := bz.f 0; have g1' := bz.f 1
  have H2 := Lib.hid (HE0.out.trans (HE1.out.trans x2))
  clear x2 bz u0 c2
  go_wp2_with fail
  exact bodyPost_ret (v := .agg #[.int .i64 0, .int .i64 0]) (by simp [results, Tryd.results25, go_sem, x0', x1']) rfl ⟨rfl, put2x H2.out (by have := HH.out; omega) _ _⟩
end Go.Proofs.YtbmjobpobjfjeaaDoor
namespace Go.Proofs.YtbmjobpobjfjeaaDoor
open Go.RowKit

set_option maxRecDepth 100000 in
set_option maxHeartbeats 4000000 in
theorem pTextM_any (p : PK) (hm : p.m = true) (n : Nat) (hn : n ≤ 12) (w : World) :
    Calls Tryd.prog 28 #[pvK p, .int .i64 (n : Int)] w fun e w' => e = .returned (.string ⟨(45 :: txL p n).toArray⟩) ∧ Ext w w' := by
  obtain ⟨i0, hi0, hz0, hz1, hz2⟩ := info_parts b_infoC
  unfold pvK
  rw [hm]
  obtain ⟨H, hH⟩ : ∃ H, w.heap.size = H := ⟨_, rfl⟩
  obtain ⟨U, hU⟩ : ∃ U, (w.alloc (.cells #[.int .u16 (p.x : Int), .int .u16 (p.z : Int), .bool true] 66)) = U := ⟨_, rfl⟩
  obtain ⟨W0, hW0⟩ : ∃ W0, U.alloc (.cells #[.int .u8 43] 5) = W0 := ⟨_, rfl⟩
  have E0 : Ext w W0 := by rw [← hW0, ← hU]; exact (ext_al w _).trans (ext_al _ _)
  have sU : U.heap.size = H + 1 := by rw [← hU, ← hH]; simp
  have P0 : PuB W0 H p.x p.z true := by rw [← hW0, ← hU, ← hH]; exact (PuB.new _ _ _ _).ext (ext_al _ _)
  have O0 : Own W0 5 (.slice (some ⟨H + 1, 0, none⟩) 1 1) [43] := by rw [← hW0, ← sU]; exact own_oneB U 43
  have r0 : W0.heap[H + 1]? = some (.cells #[.int .u8 43] 5 (0, 0)) := by rw [← hW0, ← sU]; exact heap_alloc_new U _
  obtain ⟨W1, hW1⟩ : ∃ V, W0.setCell ⟨H + 1, 0, none⟩ (.int .u8 45) = V := ⟨_, rfl⟩
  have hO1 : Only (H + 1) W0 W1 := by rw [← hW1]; exact (Only.refl _ _).setCell _ _
  have r1 : W1.heap[H + 1]? = some (.cells #[.int .u8 45] 5 (0, 0)) := by
    have := heap_setCell_same W0 (H + 1) 0 _ _ (.int .u8 45) r0
    rw [hW1] at this
    simpa using this
  have E1 : Ext w W1 := by rw [← hW1]; exact cput E0 (show w.heap.size ≤ H + 1 by omega) _
  have P1 : PuB W1 H p.x p.z true := P0.only hO1 (by omega)
  have O1 : Own W1 5 (.slice (some ⟨H + 1, 0, none⟩) 1 1) [45] := Or.inr ⟨H + 1, 1, #[.int .u8 45], rfl, r1, Nat.le_refl _, by unfold maxLen; decide, rfl, rfl, fun u hu => ⟨45, by simpa using hu⟩⟩
  have q43 : W0.cell? ⟨H + 1, 0, none⟩ = some (.int .u8 43) := by rw [cell_of_row W0 (H + 1) 0 _ _ (0, 0) r0]; rfl
  have f43 : W0.frozen? ⟨H + 1, 0, none⟩ = false := frozen_of_row W0 (H + 1) 0 _ _ r0
  have HW1 := Lib.hid hW1
  have HE0 := Lib.hid E1; have HU := Lib.hid hU; have HW0 := Lib.hid hW0; have HH := Lib.hid hH; have HsU := Lib.hid sU; have HP := Lib.hid P1; have HO := Lib.hid O1; have Hn := Lib.hid hn
  have HxH := Lib.hid (show w.heap.size ≤ H + 1 by omega)
  have k2 := P0.x2
  clear E0 P0 O0 hU hW0 hH sU hn hm r0 r1 hO1 E1 P1 O1 hW1
  go_enter Tryd.func28, Tryd.ntmps28
  go_upto_region 1 with fail
  rw [HU.out, HH.out]
  go_upto_region 2 with fail
  rw [HW0.out, HsU.out]
  go_upto_region 4 with fail
  rw [HW1.out]
  clear q43 f43
  go_wp2_with fail
  clear k2
  go_loopg [5, 13] n (fun kk s5 s13 wr => ∃ i : Nat, s13 = .int .i64 (i : Int) ∧ i ≤ n ∧ n - i = kk ∧ Own wr 5 s5 (45 :: txL p i) ∧ Apd W1 wr (.slice (some ⟨H + 1, 0, none⟩) 1 1) s5)
  case atStart => exact ⟨0, rfl, Nat.zero_le _, rfl, HO.out, Apd.refl _ _⟩
  case round =>
    obtain ⟨i, rfl, hi, hkk, hO, hA⟩ := hrel
    have Hkk := Lib.hid hkk; have HOi := Lib.hid hO; have HAi := Lib.hid hA
    by_cases hin : i = n
    · have q1 : ¬ (i : Int) < (n : Int) := by omega
      subst hin
      have hcv := run_convert_ownC hO (by simp)
      clear hi hkk hO hA
      go_wp2_with fail
      go_ret
      have hg := HAi.out.grown
      refine ⟨rfl, ext_grownC HE0.out hg HxH.out⟩
    have hlt : i < n := by omega
    have q1 : (i : Int) < (n : Int) := by omega
    have q0 : (0 : Int) ≤ (i : Int) := by omega
    have wk : IntKind.i64.wrap ((i : Int) + 1) = ((i + 1 : Nat) : Int) := by rw [IntKind.wrap_i64]; have := Hn.out; omega
    have hcast : ((2 ^ i : Nat) : Int) = (2 : Int) ^ i := by rw [Int.natCast_pow]; rfl
    have hmin : min i 16 = i := by have := Hn.out; omega
    obtain ⟨dx, hdx⟩ : ∃ d, p.x / 2 ^ i = d := ⟨_, rfl⟩
    obtain ⟨dz, hdz⟩ : ∃ d, p.z / 2 ^ i = d := ⟨_, rfl⟩
    have bx : dx < 65536 := by rw [← hdx]; exact Nat.lt_of_le_of_lt (Nat.div_le_self _ _) p.hx
    have bz : dz < 65536 := by rw [← hdz]; exact Nat.lt_of_le_of_lt (Nat.div_le_self _ _) p.hz
    have r1 : (p.x : Int) / 2 ^ i = (dx : Int) := by rw [← hcast, ← Int.natCast_ediv, hdx]
    have r1' : (p.x : Int) / 2 ^ min i 16 = (dx : Int) := by rw [hmin]; exact r1
    have s1 : (p.z : Int) / 2 ^ i = (dz : Int) := by rw [← hcast, ← Int.natCast_ediv, hdz]
    have s1' : (p.z : Int) / 2 ^ min i 16 = (dz : Int) := by rw [hmin]; exact s1
    have r2 := and1_u16 bx
    have s2 := and1_u16 bz
    obtain ⟨ex, hex⟩ : ∃ e, dx % 2 = e := ⟨_, rfl⟩
    obtain ⟨ez, hez⟩ : ∃ e, dz % 2 = e := ⟨_, rfl⟩
    rw [hex] at r2
    rw [hez] at s2
    have s3 : IntKind.u16.wrap ((ez : Int) * 2) = ((ez * 2 : Nat) : Int) := by rw [show (ez : Int) * 2 = ((ez * 2 : Nat) : Int) by omega]; exact wrapu (by omega)
    obtain ⟨e2, he2⟩ : ∃ e, ez * 2 = e := ⟨_, rfl⟩
    rw [he2] at s3
    obtain ⟨k, hk⟩ : ∃ k, ex + e2 = k := ⟨_, rfl⟩
    have r4 : bits .or .u16 (ex : Int) (e2 : Int) = (k : Int) := by rw [or_u16 (by omega) (by omega), ← he2, or_two (by omega) (by omega), he2, hk]
    have hk4 : k < 4 := by omega
    have hidx := let4_idx k hk4
    have hltk : ltK p i = k := by unfold ltK; rw [hdx, hdz, hex, hez, he2, hk]
    obtain ⟨b, hb⟩ : ∃ b, lt4 k = b := ⟨_, rfl⟩
    rw [hb] at hidx
    have Hst := Lib.hid (show 45 :: txL p (i + 1) = (45 :: txL p i) ++ [b] by rw [txL_snoc, hltk, hb]; rfl)
    have Hlt := Lib.hid hlt
    have hPw : PuB wr H p.x p.z true := ⟨(hA.grown.block H (HP.out.lt) (by simp [Value.ownBlock])).trans HP.out.row⟩
    have c0 := hPw.x0; have c1 := hPw.x1
    clear hi hkk hin hlt hcast hmin hdx hdz bx bz hex hez he2 hk hk4 hltk hb hPw hO hA
    go_upto_region 7 with fail
    obtain ⟨v', w', hap, hown', hapd⟩ := run_append_bytes (P := Tryd.prog) ((wr.alloc (.cells #[.int .u8 (b.toNat : Int)] 5)).drew) 102 102 5 i0 Tryd.underlying102 hi0 hz0 hz1 hz2 _ (45 :: txL p i) (HOi.out.ext (Below.drew (ext_al _ _))) ⟨wr.heap.size, 0, none⟩ 1 1 [b] rfl (by decide) (fun j u hj => by
      have hr := ((Below.drew (Ext.refl _) : Ext (wr.alloc (.cells #[.int .u8 (b.toNat : Int)] 5)) _).block wr.heap.size (by simp)).trans (heap_alloc_new _ _)
      cases j with
      | zero =>
        have : Value.int .u8 (b.toNat : Int) = u := by simpa [byC] using hj
        rw [← this]
        show World.cell? _ ⟨wr.heap.size, 0, none⟩ = _
        rw [cell_of_row _ _ 0 _ _ (0, 0) hr]; rfl
      | succ j => simp [byC] at hj) (by simp only [List.length_cons, List.length_nil, txL_len]; have := Hn.out; have := Hlt.out; omega)
    have Hnew := Lib.hid (And.intro hown' ((HAi.out.trans (Apd.of_ext (Below.drew (ext_al _ _)) _)).trans hapd))
    have Hap := Lib.hid hap
    clear hap hown' hapd
    go_region_law (refine stepB_append_run (by rfl) _ _ (by rfl) (by rfl) _ _ _ (by rfl) (by rfl) Hap.out ?_)
    all_goals
      clear Hap c0 c1 hidx r1 r1' s1 s1' r2 s2 s3 r4
      go_wp2_with fail
      go_roundg (n - (i + 1))
      case measure => have := Hkk.out; have := Hlt.out; omega
      case rel => exact ⟨i + 1, rfl, Hlt.out, rfl, by rw [Hst.out]; exact Hnew.out.1, Hnew.out.2⟩
/-- A Pauli's text. -/
def txQ (n : Nat) (p : PK) : List UInt8 := (if p.m then 45 else 43) :: txL p n
theorem pTextQ_any (p : PK) (n : Nat) (hn : n ≤ 12) (w : World) :
    Calls Tryd.prog 28 #[pvK p, .int .i64 (n : Int)] w fun e w' => e = .returned (.string ⟨(txQ n p).toArray⟩) ∧ Ext w w' := by
  unfold txQ
  cases h : p.m with
  | false => exact pText_any p h n hn w
  | true => exact pTextM_any p h n hn w
end Go.Proofs.YtbmjobpobjfjeaaDoor
namespace Go.Proofs.YtbmjobpobjfjeaaDoor
open Go.RowKit

set_option maxRecDepth 100000 in
set_option maxHeartbeats 8000000 in
theorem Image_any {n : Nat} (h1 : 1 ≤ n) (hn : n ≤ 12) (ops : List Gop) (hok : ∀ o ∈ ops, WOk n o) (ao : Option Addr) (m c : Nat) (T : List UInt8) (p : PK) (w : World) (h : OpsAt w ao m ops) (hm : m ≤ 4096) (hmc : m ≤ c) (hc : c ≤ 9223372036854775807) (hS : Shp w)
    (hT : T.length ≤ 9223372036854775807) (hP : isP n T = true) (hp : p.x = paX n T ∧ p.z = paZ n T ∧ p.m = paM n T) (r : PK) (hr : actL ops (toQ p) = toQ r) :
    Calls Tryd.prog 11 #[.agg #[.int .i64 (n : Int), .int .i64 0, .slice ao m c], .string ⟨T.toArray⟩] w fun e w' => e = .returned (.tuple #[.string ⟨(txQ n r).toArray⟩, .agg #[.int .i64 0, .int .i64 0]]) ∧ Ext w w' := by
  obtain ⟨W0, hW0⟩ : ∃ V, (w.alloc (.cells #[.int .i64 (n : Int), .int .i64 0, .slice ao m c] 27)).alloc (.cells #[.int .i64 0, .int .i64 0] 29) = V := ⟨_, rfl⟩
  obtain ⟨H, hH⟩ : ∃ H, w.heap.size = H := ⟨_, rfl⟩
  have E0 : Ext w W0 := by rw [← hW0]; exact (ext_al _ _).trans (ext_al _ _)
  have bC : CiB W0 H (n : Int) 0 ao m c := by rw [← hW0, ← hH]; exact CiB.ext ⟨heap_alloc_new w _⟩ (ext_al _ _)
  have bF : FtB W0 (H + 1) 0 0 := ⟨by
    have := heap_alloc_new (w.alloc (.cells #[.int .i64 (n : Int), .int .i64 0, .slice ao m c] 27)) (.cells #[.int .i64 0, .int .i64 0] 29)
    rw [← hW0, ← hH]
    simpa using this⟩
  have HCg := Lib.hid (checkGates_any h1 hn ops hok ao m c W0 (h.ext E0) hm hmc hc (hS.ext E0))
  have HPa := Lib.hid (fun wx => pParse_any T n wx h1 hn hT)
  obtain ⟨X, hX⟩ : ∃ X, paX n T = X := ⟨_, rfl⟩
  obtain ⟨Z, hZ⟩ : ∃ Z, paZ n T = Z := ⟨_, rfl⟩
  obtain ⟨M, hM⟩ : ∃ M, paM n T = M := ⟨_, rfl⟩
  rw [hP, hX, hZ, hM] at HPa
  rw [hX, hZ, hM] at hp
  have Hp0 := Lib.hid (show toQ p = ⟨X, Z, M⟩ from by unfold toQ; rw [hp.1, hp.2.1, hp.2.2])
  have Hpok := Lib.hid (show QP.ok ⟨X, Z, M⟩ from ⟨by rw [← hp.1]; exact p.hx, by rw [← hp.2.1]; exact p.hz⟩)
  have HTx := Lib.hid (fun wx => pTextQ_any r n hn wx)
  have Hr := Lib.hid hr; have Hh := Lib.hid (h.ext E0); have HF := Lib.hid bF; have HC := Lib.hid bC; have HE0 := Lib.hid E0; have HW0 := Lib.hid hW0; have HH := Lib.hid hH; have Hok := Lib.hid hok; have Hm := Lib.hid hm; have Hn := Lib.hid hn
  have Hl := Lib.hid h.1
  have v0 := bC.x0; have v1 := bC.x1; have v2 := bC.x2
  clear h bF bC E0 hW0 hH hok hm hmc hc hS hT hP hp hr hX hZ hM h1 hn
  go_enter Tryd.func11, Tryd.ntmps11
  go_upto_region 1 with fail
  rw [HW0.out, HH.out]
  go_wp2_with fail
  refine HCg.out.mono ?_
  rintro e w1 ⟨rfl, x1⟩
  have Hx1 := Lib.hid x1
  clear x1
  go_upto_region 2 with fail
  obtain ⟨W1, hW1⟩ : ∃ V, w1.alloc (.cells #[.int .i64 0, .int .i64 0] 29) = V := ⟨_, rfl⟩
  have E1 : Ext W0 W1 := by rw [← hW1]; exact Hx1.out.trans (ext_al _ _)
  have b1 : FtB W1 w1.heap.size 0 0 := by rw [← hW1]; exact ⟨heap_alloc_new w1 _⟩
  have u0 := b1.x0
  have c0 := (HC.out.ext E1).x0; have c1 := (HC.out.ext E1).x1; have c2 := (HC.out.ext E1).x2
  have HE1 := Lib.hid E1
  rw [hW1]
  clear E1 b1 v0 v1 v2 hW1
  go_wp2_with fail
  refine (HPa.out _).mono ?_
  rintro e w2 ⟨rfl, x2⟩
  have Hx2 := Lib.hid x2
  clear x2
  go_upto_region 5 with fail
  obtain ⟨G, hG⟩ : ∃ G, w2.heap.size = G := ⟨_, rfl⟩
  obtain ⟨W2, hW2⟩ : ∃ V, w2.alloc (.cells #[.int .u16 (X : Int), .int .u16 (Z : Int), .bool M] 66) = V := ⟨_, rfl⟩
  have E2 : Ext W0 W2 := by rw [← hW2]; exact HE1.out.trans (Hx2.out.trans (ext_al _ _))
  have bP : PuB W2 G X Z M := by rw [← hW2, ← hG]; exact PuB.new _ _ _ _
  have hWG : W0.heap.size ≤ G := by rw [← hG]; exact Nat.le_trans HE1.out.size Hx2.out.size
  have HE2 := Lib.hid E2; have HbP := Lib.hid bP; have HWG := Lib.hid hWG
  have c0 := (HC.out.ext E2).x0; have c1 := (HC.out.ext E2).x1; have c2 := (HC.out.ext E2).x2
  rw [hG, hW2]
  clear E2 bP hWG hG hW2 u0
  go_upto_region 8 with fail
  go_loopg [30] m (fun kk s30 wr => ∃ i : Nat, s30 = .int .i64 (i : Int) ∧ i ≤ m ∧ m - i = kk ∧ Ext W0 wr ∧ PuB wr G (actL (ops.take i) ⟨X, Z, M⟩).x (actL (ops.take i) ⟨X, Z, M⟩).z (actL (ops.take i) ⟨X, Z, M⟩).m)
  case atStart => exact ⟨0, rfl, Nat.zero_le _, rfl, HE2.out, HbP.out⟩
  case round =>
    obtain ⟨i, rfl, hi, hkk, hE, hB⟩ := hrel
    have Hkk := Lib.hid hkk; have HE := Lib.hid hE; have HB := Lib.hid hB
    by_cases him : i = m
    · have p1 : ¬ (i : Int) < (m : Int) := by omega
      have htk : ops.take i = ops := List.take_of_length_le (by have := Hl.out; omega)
      rw [htk, ← Hp0.out, Hr.out] at HB
      have k0 := HB.out.x0; have k1 := HB.out.x1; have k2 := HB.out.x2
      have d0 := (HC.out.ext hE).x0
      clear hkk hE hB hi him htk c0 c1 c2
      unfold toQ at k0 k1 k2
      simp only at k0 k1 k2
      unfold pvK at HTx
      go_wp2_with fail
      refine (HTx.out _).mono ?_
      rintro e w3 ⟨rfl, x3⟩
      have bz := HF.out.ext (HE.out.trans x3)
      have x0' := bz.x0; have x1' := bz.x1; have g0' := bz.f 0; have g1' := bz.f 1
      have H3 := Lib.hid (HE0.out.trans (HE.out.trans x3))
      clear x3 bz k0 k1 k2 d0
      go_wp2_with fail
      exact bodyPost_ret (v := .tuple #[.string ⟨(txQ n r).toArray⟩, .agg #[.int .i64 0, .int .i64 0]]) (by simp [results, Tryd.results11, go_sem, x0', x1']) rfl ⟨rfl, put2x H3.out (by have := HH.out; omega) _ _⟩
    have hlt : i < m := by omega
    have p1 : (i : Int) < (m : Int) := by omega
    have p0 : (0 : Int) ≤ (i : Int) := by omega
    have wi : IntKind.i64.wrap ((i : Int) + 1) = ((i + 1 : Nat) : Int) := by rw [IntKind.wrap_i64]; have := Hm.out; omega
    obtain ⟨b, o, rfl⟩ := Hh.out.some_of (by omega)
    obtain ⟨g, hg⟩ : ∃ g, ops[i]? = some g := ⟨_, List.getElem?_eq_getElem (by rw [Hl.out]; exact hlt)⟩
    obtain ⟨a1, n1, c1', a2, n2, c2', e0, e1, e2, e3, e4, e5, hol⟩ := (Hh.out.ext hE).at i g hg
    have hgo := Hok.out g (List.mem_of_getElem? hg)
    have htk : actL (ops.take (i + 1)) ⟨X, Z, M⟩ = actW g (actL (ops.take i) ⟨X, Z, M⟩) := by rw [List.take_add_one, hg]; exact actL_snoc _ g _
    have hqok := actL_ok (show n ≤ 16 by have := Hn.out; omega) (ops := ops.take i) (fun o ho => Hok.out o (List.mem_of_mem_take ho)) Hpok.out
    have HGt := Lib.hid (fun wx (hx : Ext wr wx) => GateOf_any (show n ≤ 16 by have := Hn.out; omega) hgo a1 n1 c1' a2 n2 c2' wx (hol.ext hx))
    obtain ⟨A, hA⟩ : ∃ A, actW g = A := ⟨_, rfl⟩
    rw [hA] at htk HGt
    obtain ⟨q, hq⟩ : ∃ q, actL (ops.take i) ⟨X, Z, M⟩ = q := ⟨_, rfl⟩
    rw [hq] at HB htk hqok
    obtain ⟨kd, kk, ctl, oq, bt, cnd⟩ := g
    simp only at e0 e1 e2 e3 e4 e5 HGt
    have Hlt := Lib.hid hlt; have Hqok := Lib.hid hqok; have Htk := Lib.hid htk
    obtain ⟨J, hJ⟩ : ∃ J, wr.heap.size = J := ⟨_, rfl⟩
    have bx := opbx_new wr kd kk a1 n1 c1' oq bt a2 n2 c2'
    have hxr := ext_al wr (.cells #[.int .i64 kd, .int .i64 kk, .slice a1 n1 c1', .int .i64 oq, .int .i64 bt, .slice a2 n2 c2'] 62)
    clear hkk hE hB hi him hlt hg hol hgo hqok htk hA hq
    have Hbx := Lib.hid bx; have Hxr := Lib.hid hxr; have HJ := Lib.hid hJ
    clear bx hxr hJ
    go_upto_region 10 with fail
    clear e0 e1 e2 e3 e4 e5
    obtain ⟨Wj, hWj⟩ : ∃ V, wr.alloc (.cells #[.int .i64 kd, .int .i64 kk, .slice a1 n1 c1', .int .i64 oq, .int .i64 bt, .slice a2 n2 c2'] 62) = V := ⟨_, rfl⟩
    rw [hWj] at Hbx Hxr ⊢
    rw [HJ.out] at Hbx ⊢
    clear hWj
    have HB := Lib.hid (HB.out.ext Hxr.out)
    have HSt := Lib.hid (fun (w' : World) (hx : Ext Wj w') => (show w'.cell? ⟨J, 0, none⟩ = some (.int .i64 kd) ∧ w'.cell? ⟨J, 1, none⟩ = some (.int .i64 kk) ∧ w'.cell? ⟨J, 2, none⟩ = some (.slice a1 n1 c1') ∧ w'.cell? ⟨J, 3, none⟩ = some (.int .i64 oq) ∧ w'.cell? ⟨J, 4, none⟩ = some (.int .i64 bt) ∧ w'.cell? ⟨J, 5, none⟩ = some (.slice a2 n2 c2') ∧ w'.cell? ⟨G, 0, none⟩ = some (.int .u16 (q.x : Int)) ∧ w'.cell? ⟨G, 1, none⟩ = some (.int .u16 (q.z : Int)) ∧ w'.cell? ⟨G, 2, none⟩ = some (.bool q.m) from ⟨cell_ext Hbx.out.x0 hx, cell_ext Hbx.out.x1 hx, cell_ext Hbx.out.x2 hx, cell_ext Hbx.out.x3 hx, cell_ext Hbx.out.x4 hx, cell_ext Hbx.out.x5 hx, cell_ext HB.out.x0 hx, cell_ext HB.out.x1 hx, cell_ext HB.out.x2 hx⟩))
    have hd0 : Ext Wj Wj.drew := Below.drew (Ext.refl _)
    refine wp_region_K 4 (fun w' => w'.cell? ⟨J, 0, none⟩ = some (.int .i64 kd) ∧ w'.cell? ⟨J, 1, none⟩ = some (.int .i64 kk) ∧ w'.cell? ⟨J, 2, none⟩ = some (.slice a1 n1 c1') ∧ w'.cell? ⟨J, 3, none⟩ = some (.int .i64 oq) ∧ w'.cell? ⟨J, 4, none⟩ = some (.int .i64 bt) ∧ w'.cell? ⟨J, 5, none⟩ = some (.slice a2 n2 c2') ∧ w'.cell? ⟨G, 0, none⟩ = some (.int .u16 (q.x : Int)) ∧ w'.cell? ⟨G, 1, none⟩ = some (.int .u16 (q.z : Int)) ∧ w'.cell? ⟨G, 2, none⟩ = some (.bool q.m)) (by kernel_rfl) ?_
    show anyK _ _ _ _ _ _ 5 #[false, false, false, false, false] _ _
    refine anyK_take (i := 0) (v := ?_) rfl (by kernel_rfl) (by kernel_rfl) (by kernel_rfl) (N := 5) (by kernel_rfl) (by kernel_rfl) (by kernel_rfl) (fun _ _ _ h => h) (Or.inl ⟨by rfl, ?_⟩) (HSt.out _ hd0) ?_
    rotate_left 1
    · intro w hSw
      go_simp
      try with_reducible rfl
    show anyK _ _ _ _ _ _ _ _ (Act.put _ (some 34) _) _
    simp only [Act.put, List.setIfInBounds_toArray, List.set_cons_zero, List.set_cons_succ]
    refine anyK_take (i := 2) (v := ?_) rfl (by kernel_rfl) (by kernel_rfl) (by kernel_rfl) (N := 5) (by kernel_rfl) (by kernel_rfl) (by kernel_rfl) (fun _ _ _ h => h) (Or.inl ⟨by rfl, ?_⟩) (HSt.out _ hd0) ?_
    rotate_left 1
    · intro w hSw
      go_simp
      try with_reducible rfl
    show anyK _ _ _ _ _ _ _ _ (Act.put _ (some 36) _) _
    simp only [Act.put, List.setIfInBounds_toArray, List.set_cons_zero, List.set_cons_succ]
    refine anyK_one (i := 1) (by kernel_rfl) rfl (fun Kk hKk => ?_)
    go_simp
    (go_at_call 27; refine (HGt.out _ (Hxr.out.trans hd0)).mono ?_; rintro e w5 ⟨vg, rfl, x5, hvg⟩)
    have E5 : Ext Wj w5 := hd0.trans x5
    obtain ⟨F, caps, rfl, hEnt, hC⟩ := hvg
    have HCc := Lib.hid (hC q w5 Hqok.out (Kb.of_ext (Ext.refl _)))
    unfold pvQ at HCc
    obtain ⟨Q, hQ⟩ : ∃ Q, A q = Q := ⟨_, rfl⟩
    have HQ := Lib.hid hQ
    rw [hQ] at HCc
    clear hQ hC x5
    go_wp2_with fail
    refine hKk.out _ _ (fun _ => HSt.out _ E5) ?_
    clear hKk Kk
    simp only [List.setIfInBounds_toArray, List.set_cons_zero, List.set_cons_succ]
    refine anyK_one (i := 3) (by kernel_rfl) rfl (fun Kk hKk => ?_)
    go_simp
    (refine HCc.out.mono ?_; rintro e w6 ⟨rfl, x6⟩)
    have E6 : Ext Wj w6 := E5.trans x6
    go_wp2_with fail
    refine hKk.out _ _ (fun _ => HSt.out _ E6) ?_
    clear hKk Kk E5 x6 HCc hd0
    simp only [List.setIfInBounds_toArray, List.set_cons_zero, List.set_cons_succ]
    have HB6 := Lib.hid (HB.out.ext E6)
    have HE6 := Lib.hid (HE.out.trans (Hxr.out.trans E6))
    have k0 := HB6.out.x0; have k1 := HB6.out.x1; have k2 := HB6.out.x2; have f0 := HB6.out.f 0; have f1 := HB6.out.f 1; have f2 := HB6.out.f 2
    clear E6
    refine anyK_one (i := 4) (by kernel_rfl) rfl (fun Kk hKk => ?_)
    go_wp2_with fail
    refine hKk.out _ _ (fun h => Bool.noConfusion (show true = false from h)) ?_
    clear hKk Kk
    simp only [List.setIfInBounds_toArray, List.set_cons_zero, List.set_cons_succ]
    refine anyK_done (by kernel_rfl) ?_ _
    have HBz := Lib.hid (HB6.out.put Q.x Q.z Q.m)
    have HEz := Lib.hid (put3x HE6.out HWG.out (.int .u16 (Q.x : Int)) (.int .u16 (Q.z : Int)) (.bool Q.m))
    obtain ⟨W7, hW7⟩ : ∃ V, ((w6.setCell ⟨G, 0, none⟩ (.int .u16 (Q.x : Int))).setCell ⟨G, 1, none⟩ (.int .u16 (Q.z : Int))).setCell ⟨G, 2, none⟩ (.bool Q.m) = V := ⟨_, rfl⟩
    rw [hW7] at HBz HEz ⊢
    clear hW7 k0 k1 k2 f0 f1 f2
    go_wp2_with fail
    go_roundg (m - (i + 1))
    case measure => have := Hkk.out; have := Hlt.out; omega
    case rel => exact ⟨i + 1, rfl, Hlt.out, rfl, HEz.out, by rw [Htk.out, HQ.out]; exact HBz.out⟩
end Go.Proofs.YtbmjobpobjfjeaaDoor
namespace Go.Proofs.YtbmjobpobjfjeaaDoor
open Go.RowKit

theorem lt4_isE {c : UInt8} (h : isL c = true) : lt4 ((if lx c then 1 else 0) + (if lz c then 1 else 0) * 2) = c := by
  rcases isL_cases h with rfl | rfl | rfl | rfl <;> rfl
theorem nX_bitE : ∀ (a : List UInt8) (i : Nat) (c : UInt8), a[i]? = some c → nX a / 2 ^ i % 2 = if lx c then 1 else 0
  | [], i, c, h => by simp at h
  | b :: r, 0, c, h => by
    have : b = c := by simpa using h
    rw [this, nX, Nat.pow_zero, Nat.div_one]
    split <;> omega
  | b :: r, i + 1, c, h => by
    have ih := nX_bitE r i c (by simpa using h)
    rw [nX, Nat.pow_succ, Nat.mul_comm (2 ^ i) 2, ← Nat.div_div_eq_div_mul, show ((if lx b = true then 1 else 0) + 2 * nX r) / 2 = nX r by split <;> omega]
    exact ih
theorem nZ_bitE : ∀ (a : List UInt8) (i : Nat) (c : UInt8), a[i]? = some c → nZz a / 2 ^ i % 2 = if lz c then 1 else 0
  | [], i, c, h => by simp at h
  | b :: r, 0, c, h => by
    have : b = c := by simpa using h
    rw [this, nZz, Nat.pow_zero, Nat.div_one]
    split <;> omega
  | b :: r, i + 1, c, h => by
    have ih := nZ_bitE r i c (by simpa using h)
    rw [nZz, Nat.pow_succ, Nat.mul_comm (2 ^ i) 2, ← Nat.div_div_eq_div_mul, show ((if lz b = true then 1 else 0) + 2 * nZz r) / 2 = nZz r by split <;> omega]
    exact ih
theorem txL_of {n : Nat} {p : PK} {a : List UInt8} (hi : IsT p a) (h : Let n a) : txL p n = a := by
  apply List.ext_getElem?
  intro i
  by_cases hl : i < n
  · obtain ⟨c, hc⟩ : ∃ c, a[i]? = some c := ⟨_, List.getElem?_eq_getElem (by rw [h.1]; exact hl)⟩
    unfold txL
    rw [List.getElem?_map, List.getElem?_range hl, hc]
    show some (lt4 (ltK p i)) = some c
    unfold ltK
    rw [hi.1, hi.2, nX_bitE a i c hc, nZ_bitE a i c hc, lt4_isE (h.2 c (List.mem_of_getElem? hc))]
  · rw [List.getElem?_eq_none (by rw [txL_len]; omega), List.getElem?_eq_none (by rw [h.1]; omega)]
/-- What is read is written as it stood. -/
theorem tx_back {n : Nat} (hn : n ≤ 12) {T : List UInt8} (h : isP n T = true) : txQ n (pkO n T) = T := by
  obtain ⟨e1, e2, e3⟩ := pkO_is hn T
  obtain ⟨h1, h2⟩ := isP_let h
  obtain ⟨_, hs, _⟩ := isP_iff.1 h
  have hT : IsT (pkO n T) (T.drop 1) := ⟨by rw [e1]; unfold paX; rw [if_pos h], by rw [e2]; unfold paZ; rw [if_pos h]⟩
  unfold txQ
  rw [txL_of hT h2, e3]
  unfold paM
  rw [h, Bool.true_and]
  cases T with
  | nil => simp at h1
  | cons c r =>
    simp only [List.headD_cons] at hs
    rw [List.headD_cons, List.drop_succ_cons, List.drop_zero]
    rcases hs with rfl | rfl <;> rfl
/-- The text of the Z at qubit i, and its first q letters. -/
def ztL (i q : Nat) : List UInt8 := 43 :: (List.range q).map fun j => if j = i then 90 else 73
theorem ztL_len (i q : Nat) : (ztL i q).length = q + 1 := by simp [ztL]
theorem ztL_snoc {i q : Nat} {c : UInt8} (h : (if q = i then (90 : UInt8) else 73) = c) : (⟨(ztL i q).toArray⟩ : ByteArray) ++ ⟨#[c]⟩ = ⟨(ztL i (q + 1)).toArray⟩ := by
  rw [show (⟨#[c]⟩ : ByteArray) = ⟨([c] : List UInt8).toArray⟩ from rfl, str_append]
  unfold ztL
  rw [List.range_succ, List.map_append, List.map_cons, List.map_nil, h]
  rfl
theorem zt_dec : ∀ n, n < 13 → ∀ i, i < 13 → (decide (i < n) = true → (isP n (ztL i n) = true ∧ 0 = paX n (ztL i n)) ∧ 2 ^ i = paZ n (ztL i n) ∧ false = paM n (ztL i n)) := by decide +kernel
theorem zt_is {n i : Nat} (hn : n ≤ 12) (h : i < n) : (isP n (ztL i n) = true ∧ 0 = paX n (ztL i n)) ∧ 2 ^ i = paZ n (ztL i n) ∧ false = paM n (ztL i n) := zt_dec n (by omega) i (by omega) (decide_eq_true h)
def zK (i : Nat) (h : i < 16) : PK := ⟨0, 2 ^ i, false, by decide, pow_16 h⟩
/-- The encoder makes generator i of the Z at qubit i. -/
theorem enc_is {n : Nat} {gens : List (List UInt8)} (h : (ccF (n : Int) gens).1 = 0) {i : Nat} {T : List UInt8} (hT : gens[i]? = some T) (hi : i < 16) : actL (invO (wayC n gens)) (toQ (zK i hi)) = toQ (pkO n T) := by
  have hG := good_code h
  rw [Int.toNat_natCast] at hG
  obtain ⟨_, h12, _, _⟩ := cc_zero h
  have hil := (List.getElem?_eq_some_iff.1 hT).1
  obtain ⟨w1, w2⟩ := way_home (n := n) (by omega) hG gens.length (by rw [List.length_map]; unfold psL; rw [List.length_map]; exact Nat.le_refl _)
  have h2 := w2 i hil
  have hgd : ((psL n gens).map toQ).getD i ⟨0, 0, false⟩ = toQ (pkO n T) := by
    rw [List.getD_eq_getElem?_getD, List.getElem?_map]
    unfold psL
    rw [List.getElem?_map, hT]
    rfl
  rw [hgd] at h2
  show actL (invO (wayC n gens)) (zQ i) = _
  rw [← h2]
  exact (undo_all w1).2 (toQ (pkO n T))
theorem cc_fst {N : Int} {gens : List (List UInt8)} (h : (ccF N gens).1 = 0) : ccF N gens = (0, 0) := by
  unfold ccF at h ⊢
  split
  · rename_i h1; rw [if_pos h1] at h; exact absurd h (by decide)
  · rename_i h1
    rw [if_neg h1] at h
    split
    · rename_i h2; rw [if_pos h2] at h; exact absurd h (by decide)
    · rename_i h2
      rw [if_neg h2] at h
      split
      · rename_i h3; rw [if_pos h3] at h; exact absurd h (by show ¬ (33 : Int) = 0; decide)
      · rename_i h3
        rw [if_neg h3] at h
        split
        · rename_i h4; rw [if_pos h4] at h; exact absurd h (by show ¬ (34 : Int) = 0; decide)
        · rename_i h4
          rw [if_neg h4] at h
          split
          · rename_i h5; rw [if_pos h5] at h; exact absurd h (by show ¬ (35 : Int) = 0; decide)
          · rfl
end Go.Proofs.YtbmjobpobjfjeaaDoor
namespace Go.Proofs.YtbmjobpobjfjeaaDoor
open Go.RowKit

set_option maxRecDepth 100000 in
set_option maxHeartbeats 16000000 in
theorem encodes_bad (N : Int) (gens : List (List UInt8)) (ao : Option Addr) (k cp : Nat) (w : World) (hG : StrsAt w ao k gens) (hT : ∀ T ∈ gens, T.length ≤ 9223372036854775807) (hk9 : k * 16 ≤ 140737488355328) (hnil : ao = none → cp = 0) (hL : LtL w) (hz : ¬ (ccF N gens).1 = 0) :
    Calls Tryd.prog 3 #[.agg #[.int .i64 N, .slice ao k cp]] w fun e w' => e = .returned (.bool true) ∧ Ext w w' := by
  have hk6 : k ≤ 9223372036854775806 := by omega
  obtain ⟨H, hH⟩ : ∃ H, w.heap.size = H := ⟨_, rfl⟩
  obtain ⟨W0, hW0⟩ : ∃ W0, w.alloc (.cells #[.int .i64 N, .slice ao k cp] 24) = W0 := ⟨_, rfl⟩
  have E0 : Ext w W0 := by rw [← hW0]; exact ext_al w _
  have C0 : CoB W0 H N ao k cp := by rw [← hW0, ← hH]; exact CoB.new w _ _ _ _
  have HCp := Lib.hid (copyCode_any N gens ao k cp W0 (hG.ext E0) hk9 hnil)
  have HE0 := Lib.hid E0; have HD := Lib.hid C0; have HW0 := Lib.hid hW0; have HH := Lib.hid hH; have Hh := Lib.hid (hG.ext E0); have HL := Lib.hid (hL.ext E0); have HT := Lib.hid hT; have Hk6 := Lib.hid hk6; have Hz := Lib.hid hz
  have v0 := C0.x0; have v1 := C0.x1
  clear hG hT hk9 hnil hL E0 C0 hW0 hH hk6
  go_enter Tryd.func3, Tryd.ntmps3
  go_upto_region 1 with fail
  rw [HW0.out, HH.out]
  go_wp2_with fail
  refine HCp.out.mono ?_
  rintro e w1 ⟨a1, c1, rfl, ⟨hL1, hc1, hm1⟩, hx1⟩
  have HEn := Lib.hid (Encoder_bad N gens a1 k c1 w1 hL1 HT.out Hk6.out Hz.out)
  have HCk := Lib.hid (fun wx (hx : Ext W0 wx) => CheckCode_any N gens ao k cp wx (Hh.out.ext hx) HT.out Hk6.out)
  obtain ⟨F, hF⟩ : ∃ F, ccF N gens = F := ⟨_, rfl⟩
  obtain ⟨F0, F1⟩ := F
  rw [hF] at HEn HCk hz
  simp only at HEn HCk hz
  have Hx1 := Lib.hid hx1
  have Hnz := Lib.hid hz
  clear hL1 hc1 hm1 hx1 hF hz HCp
  go_wp2_with fail
  refine HEn.out.mono ?_
  rintro e w2 ⟨rfl, x2⟩
  have Hx2 := Lib.hid (Hx1.out.trans x2)
  clear x2 HEn
  go_upto_region 2 with fail
  obtain ⟨K, hK⟩ : ∃ K, w2.heap.size = K := ⟨_, rfl⟩
  obtain ⟨W2, hW2⟩ : ∃ V, (w2.alloc (.cells #[.int .i64 0, .int .i64 0, .slice none 0 0] 27)).alloc (.cells #[.int .i64 F0, .int .i64 F1] 29) = V := ⟨_, rfl⟩
  have E2 : Ext W0 W2 := by rw [← hW2]; exact Hx2.out.trans ((ext_al _ _).trans (ext_al _ _))
  have bC : CiB W2 K 0 0 none 0 0 := by rw [← hW2, ← hK]; exact CiB.ext ⟨heap_alloc_new _ _⟩ (ext_al _ _)
  have bF : FtB W2 (K + 1) F0 F1 := ⟨by
    have := heap_alloc_new (w2.alloc (.cells #[.int .i64 0, .int .i64 0, .slice none 0 0] 27)) (.cells #[.int .i64 F0, .int .i64 F1] 29)
    rw [← hW2, ← hK]
    simpa using this⟩
  rw [hK, hW2]
  have HE2 := Lib.hid E2; have HC := Lib.hid bC; have HF := Lib.hid bF
  have HCc := Lib.hid (HCk.out W2 E2)
  have v0 := (HD.out.ext E2).x0; have v1 := (HD.out.ext E2).x1
  clear E2 bC bF hK hW2 HCk
  go_wp2_with fail
  refine HCc.out.mono ?_
  rintro e w3 ⟨rfl, x3⟩
  have Hx3 := Lib.hid x3
  clear x3 HCc
  go_upto_region 3 with fail
  obtain ⟨K3, hK3⟩ : ∃ K, w3.heap.size = K := ⟨_, rfl⟩
  obtain ⟨W3, hW3⟩ : ∃ V, w3.alloc (.cells #[.int .i64 F0, .int .i64 F1] 29) = V := ⟨_, rfl⟩
  have E3 : Ext W2 W3 := by rw [← hW3]; exact Hx3.out.trans (ext_al _ _)
  have bG : FtB W3 K3 F0 F1 := by rw [← hW3, ← hK3]; exact ⟨heap_alloc_new _ _⟩
  rw [hK3, hW3]
  have HB := Lib.hid (codeBegun_any W3 (HL.out.ext (HE2.out.trans E3)))
  have HE3 := Lib.hid E3; have HG := Lib.hid bG
  clear E3 bG hK3 hW3 v0 v1
  go_wp2_with fail
  refine HB.out.mono ?_
  rintro e w4 ⟨rfl, x4⟩
  have E4 := HE3.out.trans x4
  have y0 := (HF.out.ext E4).x0; have y1 := (HF.out.ext E4).x1; have z0 := (HG.out.ext x4).x0; have z1 := (HG.out.ext x4).x1
  have t0 := (HC.out.ext E4).x0; have t1 := (HC.out.ext E4).x1; have t2 := (HC.out.ext E4).x2
  have HE4 := Lib.hid (HE0.out.trans (HE2.out.trans E4))
  have HSc := Lib.hid (sameCircuit_any ⟨0, 0, []⟩ none 0 0 none 0 w4 ⟨rfl, Or.inl rfl⟩ ⟨rfl, Or.inl rfl⟩ (Nat.le_refl _) (by decide) (Nat.le_refl _) (by decide))
  have hnb := bf Hnz.out
  have hnb2 : ((F0 : Int) != 0) = true := by rw [bne, hnb]; rfl
  clear E4 x4
  go_wp2_with fail
  refine HSc.out.mono ?_
  rintro e w5 ⟨rfl, x5⟩
  have H5 := Lib.hid (HE4.out.trans x5)
  clear x5
  go_wp2_with fail
  go_ret
  exact ⟨rfl, H5.out⟩
end Go.Proofs.YtbmjobpobjfjeaaDoor
namespace Go.Proofs.YtbmjobpobjfjeaaDoor
open Go.RowKit

set_option maxRecDepth 100000 in
set_option maxHeartbeats 16000000 in
theorem encodes_good (nn : Nat) (gens : List (List UInt8)) (ao : Option Addr) (k cp : Nat) (w : World) (hG : StrsAt w ao k gens) (hT : ∀ T ∈ gens, T.length ≤ 9223372036854775807) (hk9 : k * 16 ≤ 140737488355328) (hnil : ao = none → cp = 0) (hL : LtL w) (hS : Shp w) (hz : (ccF (nn : Int) gens).1 = 0) :
    Calls Tryd.prog 3 #[.agg #[.int .i64 (nn : Int), .slice ao k cp]] w fun e w' => e = .returned (.bool true) ∧ Ext w w' := by
  have hk6 : k ≤ 9223372036854775806 := by omega
  obtain ⟨hn1, hn12, hkn, hall⟩ := cc_zero hz
  obtain ⟨hwok, hwl⟩ := wayC_ok hz
  have hlk : gens.length = k := hG.1
  have hiok := (undo_all hwok).1
  have hil : (invO (wayC nn gens)).length = (wayC nn gens).length := by unfold invO; rw [List.length_map, List.length_reverse]
  have h8 : gens.length * (3 * nn + 2) ≤ 8 * nn * (nn + 1) := by
    have h3 := Nat.mul_le_mul (show gens.length ≤ nn by omega) (Nat.le_refl (3 * nn + 2))
    have h4 : nn * (3 * nn + 2) ≤ nn * (8 * (nn + 1)) := Nat.mul_le_mul (Nat.le_refl nn) (by omega)
    have h5 : nn * (8 * (nn + 1)) = 8 * nn * (nn + 1) := by rw [← Nat.mul_assoc, Nat.mul_comm nn 8]
    omega
  have h9 : 8 * nn * (nn + 1) ≤ 8 * 12 * 13 := Nat.mul_le_mul (by omega) (by omega)
  obtain ⟨B8, hB8⟩ : ∃ B, 8 * nn * (nn + 1) = B := ⟨_, rfl⟩
  have w8 : IntKind.i64.wrap (8 * (nn : Int)) = ((8 * nn : Nat) : Int) := by rw [IntKind.wrap_i64]; omega
  have wn1 : IntKind.i64.wrap ((nn : Int) + 1) = ((nn + 1 : Nat) : Int) := by rw [IntKind.wrap_i64]; omega
  obtain ⟨n8, hn8⟩ : ∃ x, 8 * nn = x := ⟨_, rfl⟩
  obtain ⟨n1, hnn1⟩ : ∃ x, nn + 1 = x := ⟨_, rfl⟩
  have wB : IntKind.i64.wrap ((n8 : Int) * (n1 : Int)) = (B8 : Int) := by rw [IntKind.wrap_i64, ← Int.natCast_mul, ← hn8, ← hnn1, hB8]; omega
  rw [hn8] at w8
  rw [hnn1] at wn1
  have HpI := Lib.hid (way_pur (by omega) (by omega) hiok (by rw [hil]; omega))
  have Hil := Lib.hid (show (invO (wayC nn gens)).length ≤ B8 by rw [hil]; omega)
  have HN := Lib.hid (show 1 ≤ nn ∧ nn ≤ 12 ∧ k ≤ nn ∧ B8 ≤ 1248 by omega)
  have Hiok := Lib.hid hiok
  have Hall := Lib.hid (show ∀ T ∈ gens, isP nn T = true by rw [Int.toNat_natCast] at hall; exact hall)
  have Henc := Lib.hid (fun (i : Nat) (T : List UInt8) (hT : gens[i]? = some T) (hi : i < 16) => enc_is hz hT hi)
  have Hlk := Lib.hid hlk
  obtain ⟨H, hH⟩ : ∃ H, w.heap.size = H := ⟨_, rfl⟩
  obtain ⟨W0, hW0⟩ : ∃ W0, w.alloc (.cells #[.int .i64 (nn : Int), .slice ao k cp] 24) = W0 := ⟨_, rfl⟩
  have E0 : Ext w W0 := by rw [← hW0]; exact ext_al w _
  have C0 : CoB W0 H (nn : Int) ao k cp := by rw [← hW0, ← hH]; exact CoB.new w _ _ _ _
  have HCp := Lib.hid (copyCode_any (nn : Int) gens ao k cp W0 (hG.ext E0) hk9 hnil)
  have HE0 := Lib.hid E0; have HD := Lib.hid C0; have HW0 := Lib.hid hW0; have HH := Lib.hid hH; have Hh := Lib.hid (hG.ext E0); have HL := Lib.hid (hL.ext E0); have HT := Lib.hid hT; have Hk6 := Lib.hid hk6; have Hz := Lib.hid hz; have HS := Lib.hid (hS.ext E0)
  have v0 := C0.x0; have v1 := C0.x1
  clear hG hT hk9 hnil hL hS E0 C0 hW0 hH hk6 hz hn1 hn12 hkn hall hwok hwl hlk hiok hil h8 h9 hB8 hn8 hnn1
  go_enter Tryd.func3, Tryd.ntmps3
  go_upto_region 1 with fail
  rw [HW0.out, HH.out]
  go_wp2_with fail
  refine HCp.out.mono ?_
  rintro e w1 ⟨a1, c1, rfl, ⟨hL1, hc1, hm1⟩, hx1⟩
  have HEn := Lib.hid (Encoder_good (nn : Int) gens a1 k c1 w1 hL1 HT.out Hk6.out Hz.out (HS.out.ext hx1))
  rw [Int.toNat_natCast] at HEn
  have HCk := Lib.hid (fun wx (hx : Ext W0 wx) => CheckCode_any (nn : Int) gens ao k cp wx (Hh.out.ext hx) HT.out Hk6.out)
  rw [cc_fst Hz.out] at HCk
  have Hx1 := Lib.hid hx1
  clear hL1 hc1 hm1 hx1 HCp
  go_wp2_with fail
  refine HEn.out.mono ?_
  rintro e w2 ⟨a2, m, c2, rfl, hmc, hcm, hoa, x2⟩
  have Hmc := Lib.hid (And.intro hmc hcm)
  have Hx2 := Lib.hid (Hx1.out.trans x2); have Hoa := Lib.hid hoa
  have Hml := Lib.hid (show m ≤ B8 by rw [← hoa.1]; exact Hil.out)
  clear x2 HEn hmc hcm hoa
  go_upto_region 2 with fail
  obtain ⟨K, hK⟩ : ∃ K, w2.heap.size = K := ⟨_, rfl⟩
  obtain ⟨W2, hW2⟩ : ∃ V, (w2.alloc (.cells #[.int .i64 (nn : Int), .int .i64 0, .slice a2 m c2] 27)).alloc (.cells #[.int .i64 0, .int .i64 0] 29) = V := ⟨_, rfl⟩
  have E22 : Ext w2 W2 := by rw [← hW2]; exact (ext_al _ _).trans (ext_al _ _)
  have E2 : Ext W0 W2 := Hx2.out.trans E22
  have bC : CiB W2 K (nn : Int) 0 a2 m c2 := by rw [← hW2, ← hK]; exact CiB.ext ⟨heap_alloc_new _ _⟩ (ext_al _ _)
  have bF : FtB W2 (K + 1) 0 0 := ⟨by
    have := heap_alloc_new (w2.alloc (.cells #[.int .i64 (nn : Int), .int .i64 0, .slice a2 m c2] 27)) (.cells #[.int .i64 0, .int .i64 0] 29)
    rw [← hW2, ← hK]
    simpa using this⟩
  rw [hK, hW2]
  have HE2 := Lib.hid E2; have HC := Lib.hid bC; have HF := Lib.hid bF; have Hoa := Lib.hid (Hoa.out.ext E22)
  have HCc := Lib.hid (HCk.out W2 E2)
  have v0 := (HD.out.ext E2).x0; have v1 := (HD.out.ext E2).x1
  clear E2 E22 bC bF hK hW2 HCk
  go_wp2_with fail
  refine HCc.out.mono ?_
  rintro e w3 ⟨rfl, x3⟩
  have Hx3 := Lib.hid x3
  clear x3 HCc
  go_upto_region 3 with fail
  obtain ⟨K3, hK3⟩ : ∃ K, w3.heap.size = K := ⟨_, rfl⟩
  obtain ⟨W3, hW3⟩ : ∃ V, w3.alloc (.cells #[.int .i64 0, .int .i64 0] 29) = V := ⟨_, rfl⟩
  have E3 : Ext W2 W3 := by rw [← hW3]; exact Hx3.out.trans (ext_al _ _)
  have bG : FtB W3 K3 0 0 := by rw [← hW3, ← hK3]; exact ⟨heap_alloc_new _ _⟩
  rw [hK3, hW3]
  have HB := Lib.hid (codeBegun_any W3 (HL.out.ext (HE2.out.trans E3)))
  have HE3 := Lib.hid E3; have HG := Lib.hid bG
  clear E3 bG hK3 hW3 v0 v1
  go_wp2_with fail
  refine HB.out.mono ?_
  rintro e w4 ⟨rfl, x4⟩
  have E4 := HE3.out.trans x4
  have y0 := (HF.out.ext E4).x0; have y1 := (HF.out.ext E4).x1; have z0 := (HG.out.ext x4).x0; have z1 := (HG.out.ext x4).x1
  have t0 := (HC.out.ext E4).x0; have t1 := (HC.out.ext E4).x1; have t2 := (HC.out.ext E4).x2
  have HE4 := Lib.hid E4
  have hRP := RPure_any ⟨(nn : Int), 0, invO (wayC nn gens)⟩ a2 m c2 w4 (Hoa.out.ext E4) Hmc.out.1 Hmc.out.2
  rw [HpI.out] at hRP
  have HRP := Lib.hid hRP
  clear E4 x4 hRP
  go_wp2_with fail
  refine HRP.out.mono ?_
  rintro e w5 ⟨rfl, x5⟩
  have Hx5 := Lib.hid x5
  clear x5 y0 y1 z0 z1 t0 t1 t2 HRP
  go_upto_region 8 with fail
  obtain ⟨K5, hK5⟩ : ∃ K, w5.heap.size = K := ⟨_, rfl⟩
  obtain ⟨W5, hW5⟩ : ∃ V, w5.alloc (.cells #[.int .i64 0, .int .i64 0] 29) = V := ⟨_, rfl⟩
  have E5 : Ext W2 W5 := by rw [← hW5]; exact HE4.out.trans (Hx5.out.trans (ext_al _ _))
  have b5 : FtB W5 K5 0 0 := by rw [← hW5, ← hK5]; exact ⟨heap_alloc_new _ _⟩
  rw [hK5, hW5]
  have HE5 := Lib.hid E5; have HF5 := Lib.hid b5
  have t0 := (HC.out.ext E5).x0; have t1 := (HC.out.ext E5).x1; have t2 := (HC.out.ext E5).x2
  have HNf := Lib.hid (NormalFault_any (nn : Int) (invO (wayC nn gens)) Hiok.out a2 m c2 W5 (Hoa.out.ext E5) (by have := Hml.out; have := HN.out; omega))
  clear E5 b5 hK5 hW5
  go_wp2_with fail
  refine HNf.out.mono ?_
  rintro e w6 ⟨rfl, x6⟩
  have Hx6 := Lib.hid x6
  clear x6 t0 t1 t2 HNf
  go_upto_region 9 with fail
  obtain ⟨K6, hK6⟩ : ∃ K, w6.heap.size = K := ⟨_, rfl⟩
  obtain ⟨W6, hW6⟩ : ∃ V, w6.alloc (.cells #[.int .i64 0, .int .i64 0] 29) = V := ⟨_, rfl⟩
  have E56 : Ext W5 W6 := by rw [← hW6]; exact Hx6.out.trans (ext_al _ _)
  have E6 : Ext W2 W6 := HE5.out.trans E56
  have b6 : FtB W6 K6 0 0 := by rw [← hW6, ← hK6]; exact ⟨heap_alloc_new _ _⟩
  have b5 := HF5.out.ext E56
  rw [hK6, hW6]
  have HE6 := Lib.hid E6
  have y0 := b5.x0; have z0 := b6.x0
  have t0 := (HC.out.ext E6).x0; have t1 := (HC.out.ext E6).x1; have t2 := (HC.out.ext E6).x2
  have v0 := (HD.out.ext (HE2.out.trans E6)).x0
  have mB : ¬ (B8 : Int) < (m : Int) := by have := Hml.out; omega
  have HC6 := Lib.hid (HC.out.ext E6); have HD6 := Lib.hid (HD.out.ext (HE2.out.trans E6)); have Hh6 := Lib.hid (Hh.out.ext (HE2.out.trans E6)); have HS6 := Lib.hid (HS.out.ext (HE2.out.trans E6)); have Ho6 := Lib.hid (Hoa.out.ext E6); have HEE := Lib.hid (HE0.out.trans (HE2.out.trans E6))
  clear E56 E6 b6 b5 hK6 hW6
  go_upto_region 11 with fail
  clear y0 z0 t0 t1 t2 v0 mB w8 wn1 wB
  go_wp2_with fail
  go_loopg [8] k (fun kk s8 wr => ∃ i : Nat, s8 = .int .i64 (i : Int) ∧ i ≤ k ∧ k - i = kk ∧ Ext W6 wr)
  case atStart => exact ⟨0, rfl, Nat.zero_le _, rfl, Ext.refl _⟩
  case round =>
    obtain ⟨i, rfl, hi, hkk, hE⟩ := hrel
    have Hkk := Lib.hid hkk; have HE := Lib.hid hE
    have v1 := (HD6.out.ext hE).x1
    by_cases hik : i = k
    · have p1 : ¬ (i : Int) < (k : Int) := by omega
      have HEz := Lib.hid (HEE.out.trans hE)
      clear hkk hE hi hik
      go_wp2_with fail
      go_ret
      exact ⟨rfl, HEz.out⟩
    have hlt : i < k := by omega
    have p1 : (i : Int) < (k : Int) := by omega
    have p0 : (0 : Int) ≤ (i : Int) := by omega
    have wi : IntKind.i64.wrap ((i : Int) + 1) = ((i + 1 : Nat) : Int) := by rw [IntKind.wrap_i64]; have := HN.out; omega
    have Hlt := Lib.hid hlt
    obtain ⟨wA, hwA⟩ : ∃ wA, wA = wr := ⟨_, rfl⟩
    subst hwA
    clear hkk hE hi hik hlt
    go_wp2_with fail
    clear v1
    go_loopg [9, 10] nn (fun jj s9 s10 wx => ∃ q : Nat, s10 = .int .i64 (q : Int) ∧ q ≤ nn ∧ nn - q = jj ∧ s9 = .string ⟨(ztL i q).toArray⟩ ∧ Ext W6 wx)
    case atStart => exact ⟨0, rfl, Nat.zero_le _, rfl, rfl, HE.out⟩
    case round =>
      obtain ⟨q, rfl, hq, hjk, rfl, hx⟩ := hrel
      have Hjk := Lib.hid hjk; have Hx := Lib.hid hx
      have v0 := (HD6.out.ext hx).x0; have v1 := (HD6.out.ext hx).x1
      by_cases hqn : q = nn
      · have p2 : ¬ (q : Int) < (nn : Int) := by omega
        rw [hqn]
        have hin : i < nn := by have := Hlt.out; have := HN.out; omega
        have hzt := zt_is HN.out.2.1 hin
        obtain ⟨T, hTi⟩ : ∃ T, gens[i]? = some T := ⟨_, List.getElem?_eq_getElem (by rw [Hlk.out]; exact Hlt.out)⟩
        have hTd : gens.getD i [] = T := by rw [List.getD_eq_getElem?_getD, hTi]; rfl
        have hIm := Image_any HN.out.1 HN.out.2.1 (invO (wayC nn gens)) Hiok.out a2 m c2 (ztL i nn) (zK i (by have := HN.out; omega)) wr (Ho6.out.ext hx) (by have := Hml.out; have := HN.out; omega) Hmc.out.1 Hmc.out.2 (HS6.out.ext hx) (by rw [ztL_len]; have := HN.out; omega) hzt.1.1 ⟨hzt.1.2, hzt.2.1, hzt.2.2⟩ (pkO nn T) (Henc.out i T hTi (by have := HN.out; omega))
        rw [tx_back HN.out.2.1 (Hall.out T (List.mem_of_getElem? hTi))] at hIm
        have HIm := Lib.hid hIm
        obtain ⟨b, o, hao, hb, hcells⟩ := (Hh6.out.ext hx).at (by have := Hlt.out; omega)
        have e0 := hcells i Hlt.out
        rw [hTd] at e0
        have t0 := (HC6.out.ext hx).x0; have t1 := (HC6.out.ext hx).x1; have t2 := (HC6.out.ext hx).x2
        have He0 := Lib.hid e0
        have Hb := Lib.hid hb
        rw [hao] at v1
        have Hv1 := Lib.hid v1
        obtain ⟨P, hP⟩ : ∃ P, ztL i nn = P := ⟨_, rfl⟩
        rw [hP] at HIm ⊢
        have hv0 : wr.cell? ⟨H, 1, none⟩ = wr.cell? ⟨H, 1, none⟩ := rfl
        clear hjk hx hq hqn hin hzt hTi hTd hIm hcells hP hao hb hv0 v1
        have v1 := Hv1.out
        go_wp2_with fail
        refine HIm.out.mono ?_
        rintro e w7 ⟨rfl, x7⟩
        have Hx7 := Lib.hid x7
        clear x7 t0 t1 t2 HIm v0 e0 v1
        go_upto_region 22 with fail
        obtain ⟨K7, hK7⟩ : ∃ K, w7.heap.size = K := ⟨_, rfl⟩
        obtain ⟨W7, hW7⟩ : ∃ V, w7.alloc (.cells #[.int .i64 0, .int .i64 0] 29) = V := ⟨_, rfl⟩
        have E7 : Ext wr W7 := by rw [← hW7]; exact Hx7.out.trans (ext_al _ _)
        have b7 : FtB W7 K7 0 0 := by rw [← hW7, ← hK7]; exact ⟨heap_alloc_new _ _⟩
        rw [hK7, hW7]
        have f0 := b7.x0
        have e0 := cell_ext He0.out E7
        have v1 := cell_ext Hv1.out E7
        have HE7 := Lib.hid (Hx.out.trans E7)
        clear E7 b7 hK7 hW7
        go_wp2_with fail
        go_roundg (k - (i + 1))
        case measure => have := Hkk.out; have := Hlt.out; omega
        case rel => exact ⟨i + 1, rfl, Hlt.out, rfl, HE7.out⟩
      have hqlt : q < nn := by omega
      have p2 : (q : Int) < (nn : Int) := by omega
      have wq : IntKind.i64.wrap ((q : Int) + 1) = ((q + 1 : Nat) : Int) := by rw [IntKind.wrap_i64]; have := HN.out; omega
      have Hqlt := Lib.hid hqlt
      obtain ⟨P, hP⟩ : ∃ P, ztL i q = P := ⟨_, rfl⟩
      have sz : ¬ 9223372036854775807 < P.length + 1 := by rw [← hP, ztL_len]; have := HN.out; omega
      by_cases hqi : q = i
      · have e1b : ((q : Int) == (i : Int)) = true := by rw [hqi]; exact beq_self_eq_true _
        have HS := Lib.hid (ztL_snoc (i := i) (q := q) (c := 90) (by rw [if_pos hqi]))
        rw [hP] at HS ⊢
        clear hjk hx hq hqn hqlt hP hqi v1
        go_wp2_with fail
        go_roundg (nn - (q + 1))
        case measure => have := Hjk.out; have := Hqlt.out; omega
        case rel => exact ⟨q + 1, rfl, Hqlt.out, rfl, congrArg Value.string HS.out, Hx.out⟩
      · have e1b : ((q : Int) == (i : Int)) = false := bf (by omega)
        have HS := Lib.hid (ztL_snoc (i := i) (q := q) (c := 73) (by rw [if_neg hqi]))
        rw [hP] at HS ⊢
        clear hjk hx hq hqn hqlt hP hqi v1
        go_wp2_with fail
        go_roundg (nn - (q + 1))
        case measure => have := Hjk.out; have := Hqlt.out; omega
        case rel => exact ⟨q + 1, rfl, Hqlt.out, rfl, congrArg Value.string HS.out, Hx.out⟩

theorem encodes_walk (N : Int) (gens : List (List UInt8)) (ao : Option Addr) (k cp : Nat) (w : World) (hG : StrsAt w ao k gens) (hT : ∀ T ∈ gens, T.length ≤ 9223372036854775807) (hk9 : k * 16 ≤ 140737488355328) (hnil : ao = none → cp = 0) (hL : LtL w) (hS : Shp w) :
    Calls Tryd.prog 3 #[.agg #[.int .i64 N, .slice ao k cp]] w fun e w' => e = .returned (.bool true) ∧ Ext w w' := by
  by_cases hz : (ccF N gens).1 = 0
  · obtain ⟨h1, _, _, _⟩ := cc_zero hz
    obtain ⟨nn, rfl⟩ : ∃ n : Nat, N = (n : Int) := ⟨N.toNat, by omega⟩
    exact encodes_good nn gens ao k cp w hG hT hk9 hnil hL hS hz
  · exact encodes_bad N gens ao k cp w hG hT hk9 hnil hL hz
end Go.Proofs.YtbmjobpobjfjeaaDoor
namespace Go.Proofs.YtbmjobpobjfjeaaDoor
open Go.RowKit Go.ChangeShapes Go.WideShapes Go.Deep

instance : Inhabited Gop := ⟨⟨0, 0, [], 0, 0, []⟩⟩

theorem addr_at (b o t : Nat) : (⟨b, o, none⟩ : Addr).add t = ⟨b, o + t, none⟩ := by
  unfold Addr.add
  by_cases h : t = 0 <;> simp [h]

section
variable {H : Type} {enc : TypeId × Value → H} {W : World}

end

end Go.Proofs.YtbmjobpobjfjeaaDoor
namespace Go.Proofs.YtbmjobpobjfjeaaDoor
open Go.RowKit Go.ChangeShapes Go.WideShapes

set_option maxRecDepth 100000 in
theorem shape_row {H : Type} {enc : TypeId × Value → H} {W : World} {base : Nat} {sp : Nat → Bool} {held : Bool} {fuel : Nat} {cs : List Value} {s : List UInt8} {a b c d : Bool} {p : List MemPlace}
    (h : DataW.trod enc Tryd.prog W base sp held fuel 129 cs = some (.agg [.lit (.string s), .lit (.bool a), .lit (.bool b), .lit (.bool c), .lit (.bool d)], p)) :
    cs = [.string ⟨s.toArray⟩, .bool a, .bool b, .bool c, .bool d] := by
  obtain ⟨xs, n, _, hx, hl, hlen, hf⟩ := DataW.trod_struct Tryd.underlying129 h
  have hc : Tryd.prog.cellsOf 129 = 5 := by kernel_rfl
  rw [hc] at hl
  match xs, hlen, cs, hl with
  | [y0, y1, y2, y3, y4], _, [v0, v1, v2, v3, v4], _ =>
    have g0 := hf 0 _ rfl
    have g1 := hf 1 _ rfl
    have g2 := hf 2 _ rfl
    have g3 := hf 3 _ rfl
    have g4 := hf 4 _ rfl
    simp only [List.getElem?_cons_zero, List.getElem?_cons_succ] at g0 g1 g2 g3 g4
    obtain ⟨s0, e0, z0, _⟩ := DataW.trod_string Tryd.underlying9 g0
    obtain ⟨b1, e1, z1⟩ := DataW.trod_bool Tryd.underlying4 g1
    obtain ⟨b2, e2, z2⟩ := DataW.trod_bool Tryd.underlying4 g2
    obtain ⟨b3, e3, z3⟩ := DataW.trod_bool Tryd.underlying4 g3
    obtain ⟨b4, e4, z4⟩ := DataW.trod_bool Tryd.underlying4 g4
    subst z0; subst z1; subst z2; subst z3; subst z4
    injection hx with hd _
    simp only [List.map_cons, List.map_nil, DataW.agg.injEq, List.cons.injEq, DataW.lit.injEq, Lit.string.injEq, Lit.bool.injEq, and_true] at hd
    obtain ⟨rfl, rfl, rfl, rfl, rfl⟩ := hd
    injection e0 with e0; injection e1 with e1; injection e2 with e2; injection e3 with e3; injection e4 with e4
    rw [e0, e1, e2, e3, e4]

set_option maxRecDepth 100000 in
theorem shp_of_laid {W : World} (h : laidMet Tryd.prog [("qloom/circ.shapes", Rows.laid_qloom_circ_shapes)] W) : Shp W := by
  obtain ⟨ps, ⟨g', t', cs, fuel, p, q, hg', ht', hvar, hd, _, _⟩, _⟩ := h
  obtain rfl := Option.some.inj ((show Tryd.prog.globalNamed "qloom/circ.shapes" = some 0 by kernel_rfl).symm.trans hg')
  obtain rfl := Option.some.inj ((show (Tryd.prog.globals[0]?).map (·.type) = some 130 by kernel_rfl).symm.trans ht')
  obtain ⟨xs, m, _, hx, hl, hlen, hf⟩ := DataW.trod_array Tryd.underlying130 hd
  have hc : Tryd.prog.cellsOf 129 = 5 := by kernel_rfl
  rw [hc] at hf
  match xs, hlen with
  | [y0, y1, y2, y3, y4, y5, y6], _ =>
    injection hx with hx _
    unfold Rows.laid_qloom_circ_shapes at hx
    simp only [List.map_cons, List.map_nil, DataW.agg.injEq, List.cons.injEq, and_true] at hx
    obtain ⟨_, x1, x2, x3, x4, x5, x6⟩ := hx
    have key : ∀ (k : Nat) (y : DataW Unit × List MemPlace) (s : List UInt8) (a b c d : Bool), k < 7 → [y0, y1, y2, y3, y4, y5, y6][k]? = some y → .agg [.lit (.string s), .lit (.bool a), .lit (.bool b), .lit (.bool c), .lit (.bool d)] = y.1 →
        W.cell? ⟨0, k * 5, none⟩ = some (.string ⟨s.toArray⟩) ∧ W.cell? ⟨0, k * 5 + 1, none⟩ = some (.bool a) ∧ W.cell? ⟨0, k * 5 + 2, none⟩ = some (.bool b) ∧ W.cell? ⟨0, k * 5 + 3, none⟩ = some (.bool c) ∧ W.cell? ⟨0, k * 5 + 4, none⟩ = some (.bool d) := by
      intro k y s a b c d hk hy he
      have h1 := hf k hk
      rw [hy] at h1
      obtain ⟨yd, yp⟩ := y
      simp only at he
      subst he
      have h2 := shape_row h1
      have h3 : ∀ j, j < 5 → W.cell? ⟨0, k * 5 + j, none⟩ = ([.string ⟨s.toArray⟩, .bool a, .bool b, .bool c, .bool d] : List Value)[j]? := by
        intro j hj
        rw [World.var?_cell hg' hvar, ← h2, List.getElem?_take, if_pos hj, List.getElem?_drop, Array.getElem?_toList]
      exact ⟨h3 0 (by omega), h3 1 (by omega), h3 2 (by omega), h3 3 (by omega), h3 4 (by omega)⟩
    intro k h1 h6
    have hk : k = 1 ∨ k = 2 ∨ k = 3 ∨ k = 4 ∨ k = 5 ∨ k = 6 := by omega
    rcases hk with rfl | rfl | rfl | rfl | rfl | rfl
    · exact key 1 y1 _ _ _ _ _ (by omega) rfl x1
    · exact key 2 y2 _ _ _ _ _ (by omega) rfl x2
    · exact key 3 y3 _ _ _ _ _ (by omega) rfl x3
    · exact key 4 y4 _ _ _ _ _ (by omega) rfl x4
    · exact key 5 y5 _ _ _ _ _ (by omega) rfl x5
    · exact key 6 y6 _ _ _ _ _ (by omega) rfl x6

/-- What lay there is as it was: what is asked behind the call. -/
theorem post_kept {H : Type} {enc : TypeId × Value → H} {P : Program} {f : Func} {s : ChangeSpec} {apart fresh handsOn again : Bool} {W W' : World} {args : Array Value} {v : Value} {ds gs : List (DataW H)} {ps : List MemPlace}
    (hW : DataW.Whole enc P f.params.toList s.vars apart W args.toList ds gs ps)
    (hres : ∀ (b : Nat) (sp : Nat → Bool) (hd : Bool), DataW.TrodAll enc P W' b sp hd f.resultTypes.toList (v.resultList f.resultTypes.size) (s.fn H (ds ++ gs)).results [])
    (hargs : ∀ sp : Nat → Bool, (∀ x ∈ ps, sp x.block = true) → DataW.TrodAll enc P W' 0 sp true f.params.toList args.toList (s.fn H (ds ++ gs)).args ps)
    (hvars : ∀ sp : Nat → Bool, DataW.TrodVars enc P W' sp s.vars (s.fn H (ds ++ gs)).vars [])
    (hb : Ext W W')
    (hok : ∀ (j : Nat) (t : TypeId) (r : Value), f.resultTypes[j]? = some t → (v.resultList f.resultTypes.size)[j]? = some r → Value.okWide P W' .any 0 t r) :
    s.post enc P f apart fresh handsOn again W args v W' := by
  have hlt := hW.lt
  have hold : ∀ x ∈ ps, decide (x.block < W.heap.size) = true := fun x hx => by simpa using hlt x hx
  have hall : ∀ x ∈ ps, (fun _ : Nat => true) x.block = true := fun _ _ => rfl
  have hn : W.noneFrozen ps ∧ (apart = true → ps.Nodup) := by
    obtain ⟨_, _, _, _, rfl, h1, h2⟩ := hW
    exact ⟨h1, h2⟩
  refine ⟨ds, gs, ps, [], ps, [], hW, hres _ _ _, hargs _ hold, hvars _, Below.frame hb _, fun _ => ?_⟩
  refine ⟨hok, _, _, ([] ++ ps) ++ [], ⟨[] ++ ps, [], trodAll_append (hargs (fun _ => true) hall) (hres _ _ _), hvars _, rfl, ?_, ?_⟩, ?_⟩
  · intro b off hp
    have hp' : MemPlace.cell b off ∈ ps := by simpa using hp
    rw [Below.frozen hb (p := ⟨b, off, none⟩) (hlt _ hp')]
    exact hn.1 b off hp'
  · intro ha
    simpa using hn.2 ha
  · intro x hx _
    simpa using hx

end Go.Proofs.YtbmjobpobjfjeaaDoor
