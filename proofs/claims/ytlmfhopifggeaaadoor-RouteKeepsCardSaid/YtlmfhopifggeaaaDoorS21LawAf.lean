/-
  For every circuit, device, input and tape, RouteKeeps answers true and leaves its arguments as they were: the tied card. Conditions: the package variables math/bits.deBruijn32tab and qloom/circ.shapes hold what the program text lays (the given tie); the card speaks of the pruned copy of the project that the seat's page names.
-/
import Derived.Test.YtlmfhopifggeaaaDoorCards
import Derived.Test.YtlmfhopifggeaaaDoorProg
import Derived.Test.YtlmfhopifggeaaaDoorRows
import Derived.Test.YtlmfhopifggeaaaDoorTie
import Derived.BigQuiet
import Derived.Carry
import Derived.ChangeMaps5
import Derived.ChangeSame
import Derived.ChangeShapes
import Derived.Deep.AppendLies
import Derived.Deep.Cut
import Derived.Deep.CutRange
import Derived.Deep.DeepHandedRow
import Derived.Deep.LoopGhost
import Derived.Deep.MidRow
import Derived.Deep.QuietTactic
import Derived.Deep.RegionHeld3
import Derived.Deep.Slices
import Derived.Defers
import Derived.FnData
import Derived.Ground.Names2Prog
import Derived.Ground.SlgnProg
import Derived.Laws.AppendOwnNone
import Derived.Laws.Bits64b
import Derived.Laws.Concat
import Derived.Laws.CopyOwn
import Derived.Laws.IdiomCopy
import Derived.Laws.IdiomStrings
import Derived.Laws.ResultCell
import Derived.Laws.Rows
import Derived.Lib.AppendIntMem
import Derived.Lib.AppendStr
import Derived.Lib.AppendZeros
import Derived.Lib.AppendZerosOnto
import Derived.Lib.BitFns
import Derived.Lib.Hide
import Derived.Lib.ItoaMem
import Derived.Lib.ItoaNum
import Derived.Lib.LaidTab
import Derived.Lib.Strings
import Derived.Lib.TrailingZeros
import Derived.LoopIn
import Derived.LoopNIn
import Derived.Maps.AppendAt
import Derived.OpenShut
import Derived.OrdersHeld
import Derived.OrdersIn
import Derived.OwnWalk
import Derived.OwnWalkIn
import Derived.ProofKit
import Derived.RangeFuncBound
import Derived.RangeFuncCalls
import Derived.RangeFuncFrom
import Derived.RangeFuncLeaves
import Derived.Recover
import Derived.RegionTactic
import Derived.Shelf.Abstract
import Derived.Shelf.Slices.Clone
import Derived.Shelf.SlicesE.Clone
import Derived.Shelf.Spec.TrailingZeros
import Derived.SizedLaws
import Derived.Stop.LaidErr
import Derived.TacticsInMore
import Derived.WalkKit
import Derived.WalkLawsBesides
import Derived.WalkSpells
import Derived.Test.YtlmfhopifggeaaaDoorS00Mem
import Derived.Test.YtlmfhopifggeaaaDoorShelf
import Derived.Test.YtlmfhopifggeaaaDoorS02ZBq
import Derived.Test.YtlmfhopifggeaaaDoorS03ZKq
import Derived.Test.YtlmfhopifggeaaaDoorS04Udq
import Derived.Test.YtlmfhopifggeaaaDoorS05Wf
import Derived.Test.YtlmfhopifggeaaaDoorS06Xfq
import Derived.Test.YtlmfhopifggeaaaDoorS07Cn
import Derived.Test.YtlmfhopifggeaaaDoorS08Cj
import Derived.Test.YtlmfhopifggeaaaDoorS09Mb
import Derived.Test.YtlmfhopifggeaaaDoorS10Mf
import Derived.Test.YtlmfhopifggeaaaDoorS11Mh
import Derived.Test.YtlmfhopifggeaaaDoorS12Mm
import Derived.Test.YtlmfhopifggeaaaDoorS13Ms
import Derived.Test.YtlmfhopifggeaaaDoorS14Pi
import Derived.Test.YtlmfhopifggeaaaDoorS15Pk
import Derived.Test.YtlmfhopifggeaaaDoorS16Pj
import Derived.Test.YtlmfhopifggeaaaDoorS17Mv
import Derived.Test.YtlmfhopifggeaaaDoorS18Op
import Derived.Test.YtlmfhopifggeaaaDoorS19Or
import Derived.Test.YtlmfhopifggeaaaDoorS20Ky
namespace Go.Proofs.YtlmfhopifggeaaaDoor.routeKeeps
open Go.ChangeShapes Go.WideShapes Go.ChangeAt Go.RowKit Go.ChangeMaps

theorem laidOut : laidOutB Tryd.prog = true := by kernel_rfl
theorem own : ownKnob Tryd.prog.godebug = none := by kernel_rfl
/-- What the row's list gives: the table of kinds. -/
theorem shp {W : World} (h : laidMetH Tryd.prog Rows.routeKeepsRow.laid W) : Shp W := shp_of_laid (laidMet.tail h)

theorem g32 : Tryd.prog.globalNamed "math/bits.deBruijn32tab" = some 1 := by kernel_rfl
theorem g32t : (Tryd.prog.globals[1]?).map (·.type) = some 134 := by kernel_rfl
theorem cells32 : Tryd.prog.cellsOf 134 = 32 := by kernel_rfl
theorem cellsB : Tryd.prog.cellsOf 5 = 1 := by kernel_rfl
/-- And the table of TrailingZeros16. -/
theorem bru {W : World} (h : laidMetH Tryd.prog Rows.routeKeepsRow.laid W) : BruM W := by
  have h2 : laidMet Tryd.prog (("math/bits.deBruijn32tab", Lib.tabData .u8 (Lib.deBruijn32tab.map fun x : Nat => (x : Int))) :: [("qloom/circ.shapes", Rows.laid_qloom_circ_shapes)]) W := h
  have h3 := Lib.tabIs_of_head (rest := _) g32 g32t Tryd.underlying134 Tryd.underlying5 cellsB cells32 h2
  intro j hj
  have h4 := h3.cell g32 j (by rw [List.length_map]; exact hj)
  have e : (Lib.deBruijn32tab.map fun x : Nat => (x : Int)).getD j 0 = ((Lib.deBruijn32tab.getD j 0 : Nat) : Int) := by
    rw [List.getD_eq_getElem?_getD, List.getD_eq_getElem?_getD, List.getElem?_map, List.getElem?_eq_getElem hj]
    rfl
  rw [e] at h4
  exact h4

set_option maxRecDepth 100000 in
/-- For every argument, and every world that holds the tables. -/
theorem contract (H : Type) (enc : TypeId × Value → H) (W : World) (base : Nat) (args : Array Value) (ds gs : List (DataW H)) (before : List MemPlace)
    (hval : ∀ (j : Nat) t v, Tryd.f5.params[j]? = some t → args[j]? = some v → Value.okWide Tryd.prog W .any base t v)
    (hW : DataW.Whole enc Tryd.prog Tryd.f5.params.toList Rows.routeKeepsSpec.vars false W args.toList ds gs before)
    (hz : (DataW.weightsEach Tryd.prog (Tryd.f5.params.toList ++ (OpenSpec.ofChange Rows.routeKeepsSpec).bare.plain.varTypes Tryd.prog) (ds ++ gs)).all (· ≤ reachBytes) = true) (hL : laidMetH Tryd.prog Rows.routeKeepsRow.laid W) :
    Calls Tryd.prog 5 args W fun e W' => ∃ v, e = .returned v ∧ Rows.routeKeepsSpec.post enc Tryd.prog Tryd.f5 false true false false W args v W' := by
  have hW' := hW
  obtain ⟨p, q, hA0, hV, rfl, hfz, hnd⟩ := hW
  have hA : DataW.TrodAll enc Tryd.prog W 0 (fun _ => true) true Tryd.f5.params.toList args.toList ds p := hA0
  rw [Tryd.params5] at hA hval hz
  obtain ⟨v0, vs0, d0, ds0, p0, q0, hargs, rfl, rfl, h0, r0⟩ := trodAll_cons hA
  obtain ⟨v1, vs1, d1, ds1, p1, q1, rfl, rfl, rfl, h1, r1⟩ := trodAll_cons r0
  obtain ⟨v2, vs2, d2, ds2, p2, q2, rfl, rfl, rfl, h2, r2⟩ := trodAll_cons r1
  obtain ⟨v3, vs3, d3, ds3, p3, q3, rfl, rfl, rfl, h3, r3⟩ := trodAll_cons r2
  obtain ⟨rfl, rfl, rfl⟩ := trodAll_nil r3
  obtain rfl : args = #[v0, v1, v2, v3] := by cases args; simp_all
  obtain ⟨rfl, rfl⟩ := trodVars_none hV
  have hwt0 : ∀ k ∈ d0.weights Tryd.prog 34, k ≤ reachBytes := fun k hk => by
    have := List.all_eq_true.1 hz k (DataW.weights_mem_each (j := 0) rfl rfl k hk)
    simpa using this
  have hwt1 : ∀ k ∈ d1.weights Tryd.prog 24, k ≤ reachBytes := fun k hk => by
    have := List.all_eq_true.1 hz k (DataW.weights_mem_each (j := 1) rfl rfl k hk)
    simpa using this
  have hwt3 : ∀ k ∈ d3.weights Tryd.prog 36, k ≤ reachBytes := fun k hk => by
    have := List.all_eq_true.1 hz k (DataW.weights_mem_each (j := 3) rfl rfl k hk)
    simpa using this
  obtain ⟨c0, ao0, n0, cp0, rfl, hO0, hn0, hcp0, hbn0, hbl0⟩ := open_circuit (hval 0 34 v0 rfl rfl) h0 hwt0
  obtain ⟨N1, ls1, ao1, n1, cp1, rfl, hO1, hn1, hcp1, hbn1, hnil1⟩ := open_device (hval 1 24 v1 rfl rfl) h1 hwt1
  obtain ⟨t2, rfl, rfl, rfl, hs2⟩ := open_int Tryd.underlying3 (hval 2 3 v2 rfl rfl) h2
  obtain ⟨ao3, n3, cp3, l3, rfl, _, _, hI3, _⟩ := open_list (hval 3 36 v3 rfl rfl) h3 hwt3
  clear hA0
  have hlt0 : ∀ x ∈ p0, x.block < W.heap.size := fun x hx => hW'.lt x (by simp [hx])
  have hlt1 : ∀ x ∈ p1, x.block < W.heap.size := fun x hx => hW'.lt x (by simp [hx])
  have hlt3 : ∀ x ∈ p3, x.block < W.heap.size := fun x hx => hW'.lt x (by simp [hx])
  simp only [List.append_nil, List.nil_append] at hW'
  refine (keeps_walk c0 ao0 n0 cp0 N1 ls1 ao1 n1 cp1 t2 ao3 n3 cp3 l3 W hO0 hn0 hcp0 hbn0 hbl0 hO1 hn1 hcp1 hbn1 hnil1 hI3 (shp hL) (bru hL)).mono fun e W' ⟨he, hg⟩ => ?_
  subst he
  have hargs : ∀ sp : Nat → Bool, (∀ x ∈ p0 ++ (p1 ++ p3), sp x.block = true) → DataW.TrodAll enc Tryd.prog W' 0 sp true Tryd.f5.params.toList [.agg #[.int .i64 c0.qubits, .int .i64 c0.bits, .slice ao0 n0 cp0], .agg #[.int .i64 N1, .slice ao1 n1 cp1], .int .i64 t2, .slice ao3 n3 cp3] [d0, d1, .lit (.int .i64 t2), d3] (p0 ++ (p1 ++ p3)) := by
    intro sp hsp
    rw [Tryd.params5]
    have hfin := trodAll_cons_mk (WideElems.Trod_stays laidOut (by kernel_rfl) (of_decide_eq_true (by kernel_rfl)) h0 (fun x hx => Below.same hg (hlt0 x hx)) (fun x hx => hsp x (by simp [hx]))) (trodAll_cons_mk (WideElems.Trod_stays laidOut (by kernel_rfl) (of_decide_eq_true (by kernel_rfl)) h1 (fun x hx => Below.same hg (hlt1 x hx)) (fun x hx => hsp x (by simp [hx]))) (trodAll_cons_mk (shut_int Tryd.underlying3 hs2) (trodAll_cons_mk (WideElems.Trod_stays laidOut (by kernel_rfl) (of_decide_eq_true (by kernel_rfl)) h3 (fun x hx => Below.same hg (hlt3 x hx)) (fun x hx => hsp x (by simp [hx]))) (trodAll_mk0))))
    simp only [List.append_nil, List.nil_append] at hfin
    exact hfin
  exact ⟨_, rfl, post_kept hW' (fun _ _ _ => trodAll_cons_mk (shut_bool Tryd.underlying4 _) trodAll_mk0) hargs
    (fun _ => rfl) hg (ok_one (by kernel_rfl) rfl (okWide_bool_mk Tryd.underlying4 _))⟩

/-- For the witness: the tables hold what their initialisers lay. -/
def lay32 : Obj → Obj
  | .cells _ t frozen => .cells (Lib.deBruijn32tab.map fun x : Nat => Value.int .u8 (x : Int)).toArray t frozen
  | o => o
def layShp : Obj → Obj
  | .cells _ t frozen => .cells #[.string ⟨#[]⟩, .bool false, .bool false, .bool false, .bool false, .string ⟨#[112, 104, 97, 115, 101]⟩, .bool true, .bool false, .bool false, .bool false, .string ⟨#[120]⟩, .bool false, .bool true, .bool true, .bool false, .string ⟨#[104]⟩, .bool false, .bool true, .bool true, .bool false, .string ⟨#[112]⟩, .bool true, .bool true, .bool true, .bool false, .string ⟨#[109, 101, 97, 115, 117, 114, 101]⟩, .bool false, .bool true, .bool false, .bool true, .string ⟨#[114, 101, 115, 101, 116]⟩, .bool false, .bool true, .bool false, .bool false] t frozen
  | o => o
noncomputable def laidWorld (os : Os) : World :=
  { World.holding Tryd.prog os ⟨#[], #[], []⟩ with heap := ((World.holding Tryd.prog os ⟨#[], #[], []⟩).heap.modify 0 layShp).modify 1 lay32 }
theorem laid_met (os : Os) : laidMet Tryd.prog Rows.routeKeepsRow.laid ((laidWorld os).forCall (fun _ _ => 0) ⟨#[], #[.agg #[.int .i64 0, .int .i64 0, .slice none 0 0], .agg #[.int .i64 0, .slice none 0 0], .int .i64 0, .slice none 0 0], []⟩).memory :=
  laidMet_of_run' 8 (by kernel_rfl) (by kernel_rfl)
theorem reads (os : Os) {H : Type} (enc : TypeId × Value → H) : ∃ places, DataW.whole enc Tryd.prog ((laidWorld os).forCall (fun _ _ => 0) ⟨#[], #[.agg #[.int .i64 0, .int .i64 0, .slice none 0 0], .agg #[.int .i64 0, .slice none 0 0], .int .i64 0, .slice none 0 0], []⟩).memory Tryd.f5.params.toList Rows.routeKeepsSpec.vars false (#[.agg #[.int .i64 0, .int .i64 0, .slice none 0 0], .agg #[.int .i64 0, .slice none 0 0], .int .i64 0, .slice none 0 0] : Array Value).toList 8 = some ([.agg [.lit (.int .i64 0), .lit (.int .i64 0), .nil], .agg [.lit (.int .i64 0), .nil], .lit (.int .i64 0), .nil], [], places) :=
  ⟨[], by kernel_rfl⟩

set_option maxRecDepth 100000 in
theorem lifted (os : Os) (started : os.Started) (H : Type) (enc : TypeId × Value → H) (F : Stop.Interp) :
    ReturnsInHanded {} Tryd.checked os 5 .any ((OpenSpec.ofChange Rows.routeKeepsSpec).preRow enc Tryd.prog Tryd.f5 Rows.routeKeepsRow.domain false Rows.routeKeepsRow.laid) (((OpenSpec.ofChange Rows.routeKeepsSpec).at F).post enc Tryd.prog Tryd.f5 false true false false) := by
  obtain ⟨places, hx⟩ := reads os enc
  refine returnsInHanded_of_row (C := Tryd.checked) (s := OpenSpec.ofChange Rows.routeKeepsSpec) own started (by kernel_rfl) Tryd.func5
    (witness_row_at (enc := enc) (C := Tryd.checked) false (laidWorld os) #[.agg #[.int .i64 0, .int .i64 0, .slice none 0 0], .agg #[.int .i64 0, .slice none 0 0], .int .i64 0, .slice none 0 0] rfl (by kernel_rfl) (by kernel_rfl) (by kernel_rfl)
      (OpenSpec.preRow_of_cond 8 hx (by kernel_rfl) (fun k hk => by cases hk) (by kernel_rfl) (laid_met os))) ?_
  intro W base args ds gs before hval hW _ _ hz hL _ _
  exact contract H enc W base args ds gs before hval hW hz hL

theorem said : Rows.RouteKeepsSaid :=
  OpenClaim.holds_of_cond 5 Tryd.f5 rfl rfl rfl rfl rfl rfl rfl ⟨rfl, rfl, rfl, rfl, rfl⟩ rfl rfl rfl rfl rfl (by kernel_rfl) Tryd.func5 (by kernel_rfl)
    (of_decide_eq_true (by kernel_rfl)) (by unfold Func.isWrapper; first | (rw [if_pos (by decide +kernel)]; kernel_rfl) | (rw [if_neg (by decide +kernel)]; exact ⟨rfl, rfl⟩))
    (fun os started H enc _ F => by rw [OpenClaim.pre_eq_preRow]; exact lifted os started H enc F)

theorem plain (f : FuncId) (fn : Func) (hf : Tryd.pinned.checked.prog.funcNamed "qloom/qloomlaw.RouteKeeps" = some f) (hfn : Tryd.pinned.checked.prog.funcs[f]? = some fn) :
    false = Tryd.pinned.checked.prog.looks [] ∧ ∀ (j : Nat) t, fn.params[j]? = some t → Tryd.pinned.checked.prog.wantsStandIn t = false := by
  obtain rfl : f = 5 := Option.some.inj ((show Tryd.prog.funcNamed "qloom/qloomlaw.RouteKeeps" = some 5 by kernel_rfl).symm.trans hf) |>.symm
  obtain rfl : fn = Tryd.f5 := (Option.some.inj (Tryd.func5.symm.trans hfn)).symm
  refine ⟨by kernel_rfl, fun j t ht => ?_⟩
  rw [Tryd.params5] at ht
  have h := Array.mem_of_getElem? ht
  simp only [List.mem_toArray, List.mem_cons, List.not_mem_nil, or_false] at h
  rcases h with rfl | rfl | rfl | rfl
  · exact (show Tryd.prog.wantsStandIn 34 = false by kernel_rfl)
  · exact (show Tryd.prog.wantsStandIn 24 = false by kernel_rfl)
  · exact (show Tryd.prog.wantsStandIn 3 = false by kernel_rfl)
  · exact (show Tryd.prog.wantsStandIn 36 = false by kernel_rfl)

/-- The card. -/
theorem card : Rows.RouteKeepsCardSaid :=
  Claim7.holds_tied_plain_at .later [] _ _ _ _ said (fun _ h => by cases h) (by kernel_rfl) (fun _ h => by cases h) routeKeeps_row_tie rfl ⟨rfl, rfl⟩ (by kernel_rfl) rfl plain (by kernel_rfl)

end Go.Proofs.YtlmfhopifggeaaaDoor.routeKeeps

namespace Go.Proofs.YtlmfhopifggeaaaDoor
theorem routeKeeps_holds : Rows.RouteKeepsCardSaid := routeKeeps.card
end Go.Proofs.YtlmfhopifggeaaaDoor
