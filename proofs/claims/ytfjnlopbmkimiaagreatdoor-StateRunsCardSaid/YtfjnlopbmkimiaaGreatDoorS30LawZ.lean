/-
  For every circuit, basis state and list of outcomes, StateRuns answers true and leaves its arguments as they were: the tied card. Conditions: the package variables math/bits.deBruijn32tab, math/bits.deBruijn64tab, internal/strconv.uint64pow10 and qloom/circ.shapes hold what the program text lays (the given tie); the card speaks of the pruned copy of the project that the seat's page names.
-/
import Derived.Test.YtfjnlopbmkimiaaGreatDoorCards
import Derived.Test.YtfjnlopbmkimiaaGreatDoorTie
import Derived.ChangeMaps5
import Derived.Deep.DeepHandedRow
import Derived.Lib.LaidTab
import Derived.Test.YtfjnlopbmkimiaaGreatDoorS29Cw
set_option maxRecDepth 100000
namespace Go.Proofs.YtfjnlopbmkimiaaGreatDoor.stateRuns
open Go.ChangeShapes Go.WideShapes Go.ChangeAt Go.RowKit Go.ChangeMaps
theorem laidOut:laidOutB Tryz.prog=true:=by kernel_rfl
theorem own:ownKnob Tryz.prog.godebug=none:=by kernel_rfl
theorem shp {W:World} (h:laidMetH Tryz.prog Rows.stateRunsRow.laid W):Shp W:=shp_of_laid (laidMet.tail (laidMet.tail (laidMet.tail h)))
theorem g64 : Tryz.prog.globalNamed "math/bits.deBruijn64tab" = some 1 := by kernel_rfl
theorem g64t:(Tryz.prog.globals[1]?).map (·.type)=some 208:=by kernel_rfl
theorem gPow : Tryz.prog.globalNamed "internal/strconv.uint64pow10" = some 2 := by kernel_rfl
theorem gPowt:(Tryz.prog.globals[2]?).map (·.type)=some 210:=by kernel_rfl
theorem cells64:Tryz.prog.cellsOf 208=64:=by kernel_rfl
theorem cells20:Tryz.prog.cellsOf 210=20:=by kernel_rfl
theorem cellsB:Tryz.prog.cellsOf 5=1:=by kernel_rfl
theorem cellsW:Tryz.prog.cellsOf 122=1:=by kernel_rfl
theorem ten {W:World} (h:laidMetH Tryz.prog Rows.stateRunsRow.laid W):Ten W:=by
 have h3 : laidMet Tryz.prog (("internal/strconv.uint64pow10", Lib.tabData .u64 Lib.pow10Tab) :: [("qloom/circ.shapes", Rows.laid_qloom_circ_shapes)]) W := laidMet.tail (laidMet.tail h)
 exact Lib.tabIs_of_head (rest:=_) gPow gPowt Tryz.underlying210 Tryz.underlying122 cellsW cells20 h3
theorem bru {W:World} (h:laidMetH Tryz.prog Rows.stateRunsRow.laid W):Bru W:=by
 have h2 : laidMet Tryz.prog (("math/bits.deBruijn64tab", Lib.tabData .u8 (Lib.deBruijn64tab.map fun x : Nat => (x : Int))) :: [("internal/strconv.uint64pow10", Rows.laid_internal_strconv_uint64pow10), ("qloom/circ.shapes", Rows.laid_qloom_circ_shapes)]) W := laidMet.tail h
 have h3:=Lib.tabIs_of_head (rest:=_) g64 g64t Tryz.underlying208 Tryz.underlying5 cellsB cells64 h2;intro j hj;have h4:=h3.cell g64 j (by rw [List.length_map];exact hj)
 have e:(Lib.deBruijn64tab.map fun x:Nat=>(x:Int)).getD j 0=((Lib.deBruijn64tab.getD j 0:Nat):Int):=by
  rw [List.getD_eq_getElem?_getD,List.getD_eq_getElem?_getD,List.getElem?_map,List.getElem?_eq_getElem hj]
  rfl
 rw [e] at h4;exact h4
theorem contract (H:Type) (enc:TypeId × Value->H) (W:World) (base:Nat) (args:Array Value) (ds gs:List (DataW H)) (before:List MemPlace)
  (hval:∀ (j:Nat) t v,Tryz.f3.params[j]?=some t->args[j]?=some v->Value.okWide Tryz.prog W .any base t v)
  (hW:DataW.Whole enc Tryz.prog Tryz.f3.params.toList Rows.stateRunsSpec.vars false W args.toList ds gs before)
  (hz:(DataW.weightsEach Tryz.prog (Tryz.f3.params.toList++(OpenSpec.ofChange Rows.stateRunsSpec).bare.plain.varTypes Tryz.prog) (ds++gs)).all (·<=reachBytes)=true) (hL:laidMetH Tryz.prog Rows.stateRunsRow.laid W) :
  Calls Tryz.prog 3 args W fun e W'=>∃ v,e=.returned v/\Rows.stateRunsSpec.post enc Tryz.prog Tryz.f3 false true false false W args v W':=by
 have hW':=hW;obtain ⟨p,q,hA0,hV,rfl,hfz,hnd⟩:=hW;have hA:DataW.TrodAll enc Tryz.prog W 0 (fun _=>true) true Tryz.f3.params.toList args.toList ds p:=hA0;rw [Tryz.params3] at hA hval hz;obtain ⟨v0,vs0,d0,ds0,p0,q0,hargs,rfl,rfl,h0,r0⟩:=trodAll_cons hA;obtain ⟨v1,vs1,d1,ds1,p1,q1,rfl,rfl,rfl,h1,r1⟩:=trodAll_cons r0;obtain ⟨v2,vs2,d2,ds2,p2,q2,rfl,rfl,rfl,h2,r2⟩:=trodAll_cons r1;obtain ⟨rfl,rfl,rfl⟩:=trodAll_nil r2
 obtain rfl:args=#[v0,v1,v2]:=by cases args;simp_all
 obtain ⟨rfl,rfl⟩:=trodVars_none hV
 have hwt0:∀ k ∈ d0.weights Tryz.prog 24,k<=reachBytes:=fun k hk=>by
  have:=List.all_eq_true.1 hz k (DataW.weights_mem_each (j:=0) rfl rfl k hk)
  simpa using this
 have hwt2:∀ k ∈ d2.weights Tryz.prog 25,k<=reachBytes:=fun k hk=>by
  have:=List.all_eq_true.1 hz k (DataW.weights_mem_each (j:=2) rfl rfl k hk)
  simpa using this
 obtain ⟨c0,ao0,n0,cp0,rfl,hO0,hn0,hcp0,hbn0,hbl0⟩:=open_circuit (hval 0 24 v0 rfl rfl) h0 hwt0;obtain ⟨t1,rfl,rfl,rfl,hs1⟩:=open_int Tryz.underlying3 (hval 1 3 v1 rfl rfl) h1;obtain ⟨ao2,n2,cp2,l2,rfl,hn2,hcp2,hI2,hb2,hna2⟩:=open_list_n (hval 2 25 v2 rfl rfl) h2 hwt2;clear hA0
 have hlt0:∀ x ∈ p0,x.block<W.heap.size:=fun x hx=>hW'.lt x (by simp [hx])
 have hlt2:∀ x ∈ p2,x.block<W.heap.size:=fun x hx=>hW'.lt x (by simp [hx])
 simp only [List.append_nil,List.nil_append] at hW'
 refine (runs_walk c0 ao0 n0 cp0 t1 ao2 n2 cp2 l2 W hO0 hn0 hcp0 hbn0 hbl0 hI2 hn2 hna2 hb2 (shp hL) (bru hL) (ten hL)).mono fun e W' ⟨he,hg⟩=>?_
 subst he
 have hargs:∀ sp:Nat->Bool,(∀ x ∈ p0++p2,sp x.block=true)->DataW.TrodAll enc Tryz.prog W' 0 sp true Tryz.f3.params.toList [.agg #[.int .i64 c0.qubits,.int .i64 c0.bits,.slice ao0 n0 cp0],.int .i64 t1,.slice ao2 n2 cp2] [d0,.lit (.int .i64 t1),d2] (p0++p2):=by
  intro sp hsp;rw [Tryz.params3];have hfin:=trodAll_cons_mk (WideElems.Trod_stays laidOut (by kernel_rfl) (of_decide_eq_true (by kernel_rfl)) h0 (fun x hx=>Below.same hg (hlt0 x hx)) (fun x hx=>hsp x (by simp [hx]))) (trodAll_cons_mk (shut_int Tryz.underlying3 hs1) (trodAll_cons_mk (WideElems.Trod_stays laidOut (by kernel_rfl) (of_decide_eq_true (by kernel_rfl)) h2 (fun x hx=>Below.same hg (hlt2 x hx)) (fun x hx=>hsp x (by simp [hx]))) (trodAll_mk0)));simp only [List.append_nil,List.nil_append] at hfin;exact hfin
 exact ⟨_,rfl,post_kept hW' (fun _ _ _=>trodAll_cons_mk (shut_bool Tryz.underlying4 _) trodAll_mk0) hargs
  (fun _=>rfl) hg (ok_one (by kernel_rfl) rfl (okWide_bool_mk Tryz.underlying4 _))⟩
def lay64:Obj->Obj
 | .cells _ t frozen=>.cells (Lib.deBruijn64tab.map fun x:Nat=>Value.int .u8 (x:Int)).toArray t frozen
 | o=>o
def layPow:Obj->Obj
 | .cells _ t frozen=>.cells (Lib.pow10Tab.map fun x=>Value.int .u64 x).toArray t frozen
 | o=>o
def lay32:Obj->Obj
 | .cells _ t frozen=>.cells (Lib.deBruijn32tab.map fun x:Nat=>Value.int .u8 (x:Int)).toArray t frozen
 | o=>o
def layShp:Obj->Obj
 | .cells _ t frozen=>.cells #[.string ⟨#[]⟩,.bool false,.bool false,.bool false,.bool false,.string ⟨#[112,104,97,115,101]⟩,.bool true,.bool false,.bool false,.bool false,.string ⟨#[120]⟩,.bool false,.bool true,.bool true,.bool false,.string ⟨#[104]⟩,.bool false,.bool true,.bool true,.bool false,.string ⟨#[112]⟩,.bool true,.bool true,.bool true,.bool false,.string ⟨#[109,101,97,115,117,114,101]⟩,.bool false,.bool true,.bool false,.bool true,.string ⟨#[114,101,115,101,116]⟩,.bool false,.bool true,.bool false,.bool false] t frozen
 | o=>o
noncomputable def laidWorld (os:Os):World :=
 { World.holding Tryz.prog os ⟨#[],#[],[]⟩ with heap:=((((World.holding Tryz.prog os ⟨#[],#[],[]⟩).heap.modify 0 layShp).modify 2 layPow).modify 5 lay32).modify 1 lay64 }
theorem laid_met (os:Os):laidMet Tryz.prog Rows.stateRunsRow.laid ((laidWorld os).forCall (fun _ _=>0) ⟨#[],#[.agg #[.int .i64 0,.int .i64 0,.slice none 0 0],.int .i64 0,.slice none 0 0],[]⟩).memory :=
 laidMet_of_run' 8 (by kernel_rfl) (by kernel_rfl)
theorem reads (os:Os) {H:Type} (enc:TypeId × Value->H):∃ places,DataW.whole enc Tryz.prog ((laidWorld os).forCall (fun _ _=>0) ⟨#[],#[.agg #[.int .i64 0,.int .i64 0,.slice none 0 0],.int .i64 0,.slice none 0 0],[]⟩).memory Tryz.f3.params.toList Rows.stateRunsSpec.vars false (#[.agg #[.int .i64 0,.int .i64 0,.slice none 0 0],.int .i64 0,.slice none 0 0]:Array Value).toList 8=some ([.agg [.lit (.int .i64 0),.lit (.int .i64 0),.nil],.lit (.int .i64 0),.nil],[],places) :=
 ⟨[],by kernel_rfl⟩
theorem lifted (os:Os) (started:os.Started) (H:Type) (enc:TypeId × Value->H) (F:Stop.Interp) :
  ReturnsInHanded {} Tryz.checked os 3 .any ((OpenSpec.ofChange Rows.stateRunsSpec).preRow enc Tryz.prog Tryz.f3 Rows.stateRunsRow.domain false Rows.stateRunsRow.laid) (((OpenSpec.ofChange Rows.stateRunsSpec).at F).post enc Tryz.prog Tryz.f3 false true false false):=by
 obtain ⟨places,hx⟩:=reads os enc;refine returnsInHanded_of_row (C:=Tryz.checked) (s:=OpenSpec.ofChange Rows.stateRunsSpec) own started (by kernel_rfl) Tryz.func3
  (witness_row_at (enc:=enc) (C:=Tryz.checked) false (laidWorld os) #[.agg #[.int .i64 0,.int .i64 0,.slice none 0 0],.int .i64 0,.slice none 0 0] rfl (by kernel_rfl) (by kernel_rfl) (by kernel_rfl)
   (OpenSpec.preRow_of_cond 8 hx (by kernel_rfl) (fun k hk=>by cases hk) (by kernel_rfl) (laid_met os))) ?_
 intro W base args ds gs before hval hW _ _ hz hL _ _;exact contract H enc W base args ds gs before hval hW hz hL
theorem said:Rows.StateRunsSaid :=
 OpenClaim.holds_of_cond 3 Tryz.f3 rfl rfl rfl rfl rfl rfl rfl ⟨rfl,rfl,rfl,rfl,rfl⟩ rfl rfl rfl rfl rfl (by kernel_rfl) Tryz.func3 (by kernel_rfl)
  (of_decide_eq_true (by kernel_rfl)) (by unfold Func.isWrapper;first | (rw [if_pos (by decide +kernel)];kernel_rfl) | (rw [if_neg (by decide +kernel)];exact ⟨rfl,rfl⟩))
  (fun os started H enc _ F=>by rw [OpenClaim.pre_eq_preRow];exact lifted os started H enc F)
theorem plain (f : FuncId) (fn : Func) (hf : Tryz.pinned.checked.prog.funcNamed "qloom/qloomlaw.StateRuns" = some f) (hfn : Tryz.pinned.checked.prog.funcs[f]? = some fn) :
  false=Tryz.pinned.checked.prog.looks []/\∀ (j:Nat) t,fn.params[j]?=some t->Tryz.pinned.checked.prog.wantsStandIn t=false:=by
 obtain rfl : f = 3 := Option.some.inj ((show Tryz.prog.funcNamed "qloom/qloomlaw.StateRuns" = some 3 by kernel_rfl).symm.trans hf) |>.symm
 obtain rfl:fn=Tryz.f3:=(Option.some.inj (Tryz.func3.symm.trans hfn)).symm;refine ⟨by kernel_rfl,fun j t ht=>?_⟩;rw [Tryz.params3] at ht;have h:=Array.mem_of_getElem? ht;simp only [List.mem_toArray,List.mem_cons,List.not_mem_nil,or_false] at h
 rcases h with rfl | rfl | rfl
 ·exact (show Tryz.prog.wantsStandIn 24=false by kernel_rfl)
 ·exact (show Tryz.prog.wantsStandIn 3=false by kernel_rfl)
 ·exact (show Tryz.prog.wantsStandIn 25=false by kernel_rfl)
theorem card:Rows.StateRunsCardSaid :=
 Claim7.holds_tied_plain_at .later [] _ _ _ _ said (fun _ h=>by cases h) (by kernel_rfl) (fun _ h=>by cases h) stateRuns_row_tie rfl ⟨rfl,rfl⟩ (by kernel_rfl) rfl plain (by kernel_rfl)
end Go.Proofs.YtfjnlopbmkimiaaGreatDoor.stateRuns
namespace Go.Proofs.YtfjnlopbmkimiaaGreatDoor
theorem stateRuns_holds:Rows.StateRunsCardSaid:=stateRuns.card
end Go.Proofs.YtfjnlopbmkimiaaGreatDoor
