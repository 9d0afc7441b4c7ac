/-
  For every code, CodeEncodes answers true and leaves its arguments as they were: the tied card. Conditions: the package variables qloom/circ.shapes and qloom/code.letters hold what the program text lays (the given tie); the card speaks of the pruned copy of the project that the seat's page names.
-/
import Derived.Test.YtbmjobpobjfjeaaDoorCards
import Derived.Test.YtbmjobpobjfjeaaDoorProg
import Derived.Test.YtbmjobpobjfjeaaDoorRows
import Derived.Test.YtbmjobpobjfjeaaDoorTie
import Derived.BigQuiet
import Derived.Carry
import Derived.ChangeMaps5
import Derived.ChangeSame
import Derived.Deep.AppendLies
import Derived.Deep.Cut
import Derived.Deep.CutRange
import Derived.Deep.DeepHandedRow
import Derived.Deep.LoopGhost
import Derived.Deep.QuietTactic
import Derived.Deep.RegionHeld3
import Derived.Deep.Slices
import Derived.DeepKeys4
import Derived.Defers
import Derived.FnData
import Derived.Laws.AppendOwnNone
import Derived.Laws.Bits64b
import Derived.Laws.Concat
import Derived.Laws.CopyOwn
import Derived.Laws.IdiomStrings
import Derived.Laws.ResultCell
import Derived.Lib.AppendStr
import Derived.Lib.AppendZeros
import Derived.Lib.AppendZerosOnto
import Derived.Lib.BitFns
import Derived.Lib.Hide
import Derived.Lib.ItoaMem
import Derived.Lib.ItoaNum
import Derived.Lib.LaidTab
import Derived.Lib.SliceRun
import Derived.Lib.Strings
import Derived.Lib.TrailingZeros
import Derived.LoopIn
import Derived.LoopNIn
import Derived.Maps.AppendAt
import Derived.Maps.OwnSet
import Derived.OpenShut
import Derived.OwnWalk
import Derived.OwnWalkIn
import Derived.ProofKit
import Derived.RangeFuncBound
import Derived.RangeFuncBox
import Derived.RangeFuncCalls
import Derived.RangeFuncGives
import Derived.RangeFuncLeaves
import Derived.RangeFuncNested
import Derived.RangeFuncStops
import Derived.Recover
import Derived.Shelf.Abstract
import Derived.Shelf.Bits.Mul64
import Derived.Shelf.RegionOpen
import Derived.Shelf.Small.Bits
import Derived.Shelf.Small.Strs
import Derived.Shelf.Strings.Search1
import Derived.SizedLaws
import Derived.Sort.MapsRangeIn
import Derived.Stop.LaidErr
import Derived.TacticsInMore
import Derived.WalkKit
import Derived.WalkLawsBesides
import Derived.WalkSpells
import Derived.Test.YtbmjobpobjfjeaaDoorS00Ca
import Derived.Test.YtbmjobpobjfjeaaDoorShelf
import Derived.Test.YtbmjobpobjfjeaaDoorS02Cn
import Derived.Test.YtbmjobpobjfjeaaDoorS03Ib
import Derived.Test.YtbmjobpobjfjeaaDoorS04Ij
import Derived.Test.YtbmjobpobjfjeaaDoorS05Ir
import Derived.Test.YtbmjobpobjfjeaaDoorS06Is
import Derived.Test.YtbmjobpobjfjeaaDoorS07It
import Derived.Test.YtbmjobpobjfjeaaDoorS08Ix
import Derived.Test.YtbmjobpobjfjeaaDoorS09Aa
import Derived.Test.YtbmjobpobjfjeaaDoorS10Dd
import Derived.Test.YtbmjobpobjfjeaaDoorS11Bl
import Derived.Test.YtbmjobpobjfjeaaDoorS12Kg
import Derived.Test.YtbmjobpobjfjeaaDoorS13Bn
import Derived.Test.YtbmjobpobjfjeaaDoorS14Bu
import Derived.Test.YtbmjobpobjfjeaaDoorS15Pt
import Derived.Test.YtbmjobpobjfjeaaDoorS16Cw
import Derived.Test.YtbmjobpobjfjeaaDoorS17Ai
namespace Go.Proofs.YtbmjobpobjfjeaaDoor.codeEncodes
open Go.ChangeShapes Go.WideShapes Go.ChangeAt Go.RowKit Go.ChangeMaps

theorem laidOut : laidOutB Tryd.prog = true := by kernel_rfl
theorem own : ownKnob Tryd.prog.godebug = none := by kernel_rfl
theorem laid_head {P : Program} {x : String × DataW Unit} {r : List (String × DataW Unit)} {w : World} (h : laidMet P (x :: r) w) : laidMet P [x] w := by
  obtain ⟨ps, ⟨g, t, cs, fuel, p, q, h1, h2, h3, h4, _, rfl⟩, hn, hf⟩ := h
  refine ⟨MemPlace.row ⟨g, 0, none⟩ cs.size ++ p ++ [], ⟨g, t, cs, fuel, p, [], h1, h2, h3, h4, rfl, rfl⟩, ?_, fun b off hm => hf b off ?_⟩
  · rw [List.append_nil]
    exact (List.nodup_append.1 hn).1
  · rw [List.append_nil] at hm
    exact List.mem_append_left _ hm
/-- What the row's list gives: the table of kinds. -/
theorem shp {W : World} (h : laidMetH Tryd.prog Rows.codeEncodesRow.laid W) : Shp W := shp_of_laid (laid_head (x := ("qloom/circ.shapes", Rows.laid_qloom_circ_shapes)) h)
/-- And the table of letters. -/
theorem ltl {W : World} (h : laidMetH Tryd.prog Rows.codeEncodesRow.laid W) : LtL W := ltl_of_laid (laidMet.tail h)

set_option maxRecDepth 100000 in
/-- For every argument, and every world that holds the tables. -/
theorem contract (H : Type) (enc : TypeId × Value → H) (W : World) (base : Nat) (args : Array Value) (ds gs : List (DataW H)) (before : List MemPlace)
    (hval : ∀ (j : Nat) t v, Tryd.f3.params[j]? = some t → args[j]? = some v → Value.okWide Tryd.prog W .any base t v)
    (hW : DataW.Whole enc Tryd.prog Tryd.f3.params.toList Rows.codeEncodesSpec.vars false W args.toList ds gs before)
    (hz : (DataW.weightsEach Tryd.prog (Tryd.f3.params.toList ++ (OpenSpec.ofChange Rows.codeEncodesSpec).bare.plain.varTypes Tryd.prog) (ds ++ gs)).all (· ≤ reachBytes) = true) (hL : laidMetH Tryd.prog Rows.codeEncodesRow.laid W) :
    Calls Tryd.prog 3 args W fun e W' => ∃ v, e = .returned v ∧ Rows.codeEncodesSpec.post enc Tryd.prog Tryd.f3 false true false false W args v W' := by
  have hW' := hW
  obtain ⟨p, q, hA0, hV, rfl, hfz, hnd⟩ := hW
  have hA : DataW.TrodAll enc Tryd.prog W 0 (fun _ => true) true Tryd.f3.params.toList args.toList ds p := hA0
  rw [Tryd.params3] at hA hval hz
  obtain ⟨v0, vs0, d0, ds0, p0, q0, hargs, rfl, rfl, h0, r0⟩ := trodAll_cons hA
  obtain ⟨rfl, rfl, rfl⟩ := trodAll_nil r0
  obtain rfl : args = #[v0] := by cases args; simp_all
  obtain ⟨rfl, rfl⟩ := trodVars_none hV
  have hwt0 : ∀ k ∈ d0.weights Tryd.prog 24, k ≤ reachBytes := fun k hk => by
    have := List.all_eq_true.1 hz k (DataW.weights_mem_each (j := 0) rfl rfl k hk)
    simpa using this
  obtain ⟨N0, gens0, ao0, n0, cp0, rfl, hO0, hT0, hbn0, hnil0, hN0⟩ := open_code (hval 0 24 v0 rfl rfl) h0 hwt0
  clear hA0
  have hlt0 : ∀ x ∈ p0, x.block < W.heap.size := fun x hx => hW'.lt x (by simp [hx])
  simp only [List.append_nil] at hW'
  have hwk := encodes_walk N0 gens0 ao0 n0 cp0 W hO0 hT0 hbn0 hnil0 (ltl hL) (shp hL)
  refine hwk.mono fun e W' ⟨he, hg⟩ => ?_
  subst he
  have hargs : ∀ sp : Nat → Bool, (∀ x ∈ p0, sp x.block = true) → DataW.TrodAll enc Tryd.prog W' 0 sp true Tryd.f3.params.toList [.agg #[.int .i64 N0, .slice ao0 n0 cp0]] [d0] (p0) := by
    intro sp hsp
    rw [Tryd.params3]
    have hfin := trodAll_cons_mk (WideElems.Trod_stays laidOut (by kernel_rfl) (of_decide_eq_true (by kernel_rfl)) h0 (fun x hx => Below.same hg (hlt0 x hx)) (fun x hx => hsp x (by simp [hx]))) (trodAll_mk0)
    simp only [List.append_nil] at hfin
    exact hfin
  exact ⟨_, rfl, post_kept hW' (fun _ _ _ => trodAll_cons_mk (shut_bool Tryd.underlying4 _) trodAll_mk0) hargs
    (fun _ => rfl) hg (ok_one (by kernel_rfl) rfl (okWide_bool_mk Tryd.underlying4 _))⟩

/-- For the witness: the table holds what its initialiser lays. -/
def layLt : Obj → Obj
  | .cells _ t frozen => .cells #[.int .u16 1, .int .u16 0, .bool false, .int .u16 1, .int .u16 1, .bool false, .int .u16 0, .int .u16 1, .bool false] t frozen
  | o => o
def layShp : Obj → Obj
  | .cells _ t frozen => .cells #[.string ⟨#[]⟩, .bool false, .bool false, .bool false, .bool false, .string ⟨#[112, 104, 97, 115, 101]⟩, .bool true, .bool false, .bool false, .bool false, .string ⟨#[120]⟩, .bool false, .bool true, .bool true, .bool false, .string ⟨#[104]⟩, .bool false, .bool true, .bool true, .bool false, .string ⟨#[112]⟩, .bool true, .bool true, .bool true, .bool false, .string ⟨#[109, 101, 97, 115, 117, 114, 101]⟩, .bool false, .bool true, .bool false, .bool true, .string ⟨#[114, 101, 115, 101, 116]⟩, .bool false, .bool true, .bool false, .bool false] t frozen
  | o => o
noncomputable def laidWorld (os : Os) : World :=
  { World.holding Tryd.prog os ⟨#[], #[], []⟩ with heap := ((World.holding Tryd.prog os ⟨#[], #[], []⟩).heap.modify 0 layShp).modify 1 layLt }
theorem laid_met (os : Os) : laidMet Tryd.prog Rows.codeEncodesRow.laid ((laidWorld os).forCall (fun _ _ => 0) ⟨#[], #[.agg #[.int .i64 0, .slice none 0 0]], []⟩).memory :=
  laidMet_of_run' 8 (by kernel_rfl) (by kernel_rfl)
theorem reads (os : Os) {H : Type} (enc : TypeId × Value → H) : ∃ places, DataW.whole enc Tryd.prog ((laidWorld os).forCall (fun _ _ => 0) ⟨#[], #[.agg #[.int .i64 0, .slice none 0 0]], []⟩).memory Tryd.f3.params.toList Rows.codeEncodesSpec.vars false (#[.agg #[.int .i64 0, .slice none 0 0]] : Array Value).toList 8 = some ([.agg [.lit (.int .i64 0), .nil]], [], places) :=
  ⟨[], by kernel_rfl⟩

set_option maxRecDepth 100000 in
theorem lifted (os : Os) (started : os.Started) (H : Type) (enc : TypeId × Value → H) (F : Stop.Interp) :
    ReturnsInHanded {} Tryd.checked os 3 .any ((OpenSpec.ofChange Rows.codeEncodesSpec).preRow enc Tryd.prog Tryd.f3 Rows.codeEncodesRow.domain false Rows.codeEncodesRow.laid) (((OpenSpec.ofChange Rows.codeEncodesSpec).at F).post enc Tryd.prog Tryd.f3 false true false false) := by
  obtain ⟨places, hx⟩ := reads os enc
  refine returnsInHanded_of_row (C := Tryd.checked) (s := OpenSpec.ofChange Rows.codeEncodesSpec) own started (by kernel_rfl) Tryd.func3
    (witness_row_at (enc := enc) (C := Tryd.checked) false (laidWorld os) #[.agg #[.int .i64 0, .slice none 0 0]] rfl (by kernel_rfl) (by kernel_rfl) (by kernel_rfl)
      (OpenSpec.preRow_of_cond 8 hx (by kernel_rfl) (fun k hk => by cases hk) (by kernel_rfl) (laid_met os))) ?_
  intro W base args ds gs before hval hW _ _ hz hL _ _
  exact contract H enc W base args ds gs before hval hW hz hL

theorem said : Rows.CodeEncodesSaid :=
  OpenClaim.holds_of_cond 3 Tryd.f3 rfl rfl rfl rfl rfl rfl rfl ⟨rfl, rfl, rfl, rfl, rfl⟩ rfl rfl rfl rfl rfl (by kernel_rfl) Tryd.func3 (by kernel_rfl)
    (of_decide_eq_true (by kernel_rfl)) (by unfold Func.isWrapper; first | (rw [if_pos (by decide +kernel)]; kernel_rfl) | (rw [if_neg (by decide +kernel)]; exact ⟨rfl, rfl⟩))
    (fun os started H enc _ F => by rw [OpenClaim.pre_eq_preRow]; exact lifted os started H enc F)

theorem plain (f : FuncId) (fn : Func) (hf : Tryd.pinned.checked.prog.funcNamed "qloom/qloomlaw.CodeEncodes" = some f) (hfn : Tryd.pinned.checked.prog.funcs[f]? = some fn) :
    false = Tryd.pinned.checked.prog.looks [] ∧ ∀ (j : Nat) t, fn.params[j]? = some t → Tryd.pinned.checked.prog.wantsStandIn t = false := by
  obtain rfl : f = 3 := Option.some.inj ((show Tryd.prog.funcNamed "qloom/qloomlaw.CodeEncodes" = some 3 by kernel_rfl).symm.trans hf) |>.symm
  obtain rfl : fn = Tryd.f3 := (Option.some.inj (Tryd.func3.symm.trans hfn)).symm
  refine ⟨by kernel_rfl, fun j t ht => ?_⟩
  rw [Tryd.params3] at ht
  have h := Array.mem_of_getElem? ht
  simp only [List.mem_toArray, List.mem_cons, List.not_mem_nil, or_false] at h
  rcases h with rfl
  · exact (show Tryd.prog.wantsStandIn 24 = false by kernel_rfl)

/-- The card. -/
theorem card : Rows.CodeEncodesCardSaid :=
  Claim7.holds_tied_plain_at .later [] _ _ _ _ said (fun _ h => by cases h) (by kernel_rfl) (fun _ h => by cases h) codeEncodes_row_tie rfl ⟨rfl, rfl⟩ (by kernel_rfl) rfl plain (by kernel_rfl)

end Go.Proofs.YtbmjobpobjfjeaaDoor.codeEncodes

namespace Go.Proofs.YtbmjobpobjfjeaaDoor
theorem codeEncodes_holds : Rows.CodeEncodesCardSaid := codeEncodes.card
end Go.Proofs.YtbmjobpobjfjeaaDoor
