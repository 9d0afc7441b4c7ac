/-
  For every code and text, CodeFails answers true and leaves its arguments as they were: the tied card. Conditions: the package variables math/bits.deBruijn32tab, math/bits.deBruijn64tab, internal/strconv.uint64pow10 and qloom/code.letters hold what the program text lays (the given tie); the card speaks of the pruned copy of the project that the seat's page names.
-/
import Derived.Test.YtjfomkoedgipjaaGreatDoorCards
import Derived.Test.YtjfomkoedgipjaaGreatDoorTie
import Derived.ChangeMaps5
import Derived.Deep.DeepHandedRow
import Derived.Lib.LaidTab
import Derived.Test.YtjfomkoedgipjaaGreatDoorS30Wj
set_option maxRecDepth 100000
namespace Go.Proofs.YtjfomkoedgipjaaGreatDoor.codeFails
open Go.ChangeShapes Go.WideShapes Go.ChangeAt Go.RowKit Go.ChangeMaps
theorem laidOut:laidOutB Tryz.prog=true:=by kernel_rfl
theorem own:ownKnob Tryz.prog.godebug=none:=by kernel_rfl
theorem g64 : Tryz.prog.globalNamed "math/bits.deBruijn64tab" = some 1 := by kernel_rfl
theorem g64t:(Tryz.prog.globals[1]?).map (·.type)=some 182:=by kernel_rfl
theorem gPow : Tryz.prog.globalNamed "internal/strconv.uint64pow10" = some 5 := by kernel_rfl
theorem gPowt:(Tryz.prog.globals[5]?).map (·.type)=some 199:=by kernel_rfl
theorem cells64:Tryz.prog.cellsOf 182=64:=by kernel_rfl
theorem cells20:Tryz.prog.cellsOf 199=20:=by kernel_rfl
theorem cellsB:Tryz.prog.cellsOf 5=1:=by kernel_rfl
theorem cellsW:Tryz.prog.cellsOf 77=1:=by kernel_rfl
theorem size_okF {n:Nat} (h:n<=maxLen):n<=9223372036854775807:=by unfold maxLen at h;omega
theorem ltl {W:World} (h:laidMetH Tryz.prog Rows.codeFailsRow.laid W):LtL W:=ltl_of_laid (laidMet.tail (laidMet.tail (laidMet.tail h)))
theorem ten {W:World} (h:laidMetH Tryz.prog Rows.codeFailsRow.laid W):Ten W:=by
 have h3 : laidMet Tryz.prog (("internal/strconv.uint64pow10", Lib.tabData .u64 Lib.pow10Tab) :: [("qloom/code.letters", Rows.laid_qloom_code_letters)]) W := laidMet.tail (laidMet.tail h)
 exact Lib.tabIs_of_head (rest:=_) gPow gPowt Tryz.underlying199 Tryz.underlying77 cellsW cells20 h3
theorem bru {W:World} (h:laidMetH Tryz.prog Rows.codeFailsRow.laid W):Bru W:=by
 have h2 : laidMet Tryz.prog (("math/bits.deBruijn64tab", Lib.tabData .u8 (Lib.deBruijn64tab.map fun x : Nat => (x : Int))) :: [("internal/strconv.uint64pow10", Rows.laid_internal_strconv_uint64pow10), ("qloom/code.letters", Rows.laid_qloom_code_letters)]) W := laidMet.tail h
 have h3:=Lib.tabIs_of_head (rest:=_) g64 g64t Tryz.underlying182 Tryz.underlying5 cellsB cells64 h2;intro j hj;have h4:=h3.cell g64 j (by rw [jY];exact hj)
 have e:(Lib.deBruijn64tab.map fun x:Nat=>(x:Int)).getD j 0=((Lib.deBruijn64tab.getD j 0:Nat):Int):=by
  rw [qQ,qQ,jM,qX hj]
  rfl
 rw [e] at h4;exact h4
theorem contract (H:Type) (enc:TypeId × Value->H) (W:World) (base:Nat) (args:Array Value) (ds gs:List (DataW H)) (before:List MemPlace)
  (hval:∀ (j:Nat) t v,Tryz.f3.params[j]?=some t->args[j]?=some v->Value.okWide Tryz.prog W .any base t v)
  (hW:DataW.Whole enc Tryz.prog Tryz.f3.params.toList Rows.codeFailsSpec.vars false W args.toList ds gs before)
  (hz:(DataW.weightsEach Tryz.prog (Tryz.f3.params.toList++(OpenSpec.ofChange Rows.codeFailsSpec).bare.plain.varTypes Tryz.prog) (ds++gs)).all (·<=reachBytes)=true) (hL:laidMetH Tryz.prog Rows.codeFailsRow.laid W) :
  Calls Tryz.prog 3 args W fun e W'=>∃ v,e=.returned v/\Rows.codeFailsSpec.post enc Tryz.prog Tryz.f3 false true false false W args v W':=by
 have hW':=hW;obtain ⟨p,q,hA0,hV,rfl,hfz,hnd⟩:=hW;have hA:DataW.TrodAll enc Tryz.prog W 0 (fun _=>true) true Tryz.f3.params.toList args.toList ds p:=hA0;rw [Tryz.params3] at hA hval hz;obtain ⟨v0,vs0,d0,ds0,p0,q0,hargs,rfl,rfl,h0,r0⟩:=trodAll_cons hA;obtain ⟨v1,vs1,d1,ds1,p1,q1,rfl,rfl,rfl,h1,r1⟩:=trodAll_cons r0;obtain ⟨rfl,rfl,rfl⟩:=trodAll_nil r1
 obtain rfl:args=#[v0,v1]:=by cases args;simp_all
 obtain ⟨rfl,rfl⟩:=trodVars_none hV
 have hwt0:∀ k ∈ d0.weights Tryz.prog 24,k<=reachBytes:=fun k hk=>by
  have:=List.all_eq_true.1 hz k (DataW.weights_mem_each (j:=0) rfl rfl k hk)
  simpa using this
 obtain ⟨N0,gens0,ao0,n0,cp0,rfl,hO0,hT0,hbn0,hnil0,hN0⟩:=open_code (hval 0 24 v0 rfl rfl) h0 hwt0;obtain ⟨t1,rfl,rfl,rfl,hs1⟩:=open_string Tryz.underlying9 (hval 1 9 v1 rfl rfl) h1;clear hA0
 have hlt0:∀ x ∈ p0,x.block<W.heap.size:=fun x hx=>hW'.lt x (by simp [hx])
 simp only [List.append_nil] at hW';have hwk:=cfails_walk N0 gens0 t1 ao0 n0 cp0 W hO0 hT0 hbn0 hnil0 (size_okF hs1) (ltl hL) (bru hL) (ten hL)
 refine hwk.mono fun e W' ⟨he,hg⟩=>?_
 subst he
 have hargs:∀ sp:Nat->Bool,(∀ x ∈ p0,sp x.block=true)->DataW.TrodAll enc Tryz.prog W' 0 sp true Tryz.f3.params.toList [.agg #[.int .i64 N0,.slice ao0 n0 cp0],.string t1] [d0,.lit (.string t1.data.toList)] (p0):=by
  intro sp hsp;rw [Tryz.params3];have hfin:=trodAll_cons_mk (WideElems.Trod_stays laidOut (by kernel_rfl) (of_decide_eq_true (by kernel_rfl)) h0 (fun x hx=>Below.same hg (hlt0 x hx)) (fun x hx=>hsp x (by simp [hx]))) (trodAll_cons_mk (shut_string Tryz.underlying9 hs1) (trodAll_mk0));simp only [List.append_nil] at hfin;exact hfin
 exact ⟨_,rfl,post_kept hW' (fun _ _ _=>trodAll_cons_mk (shut_bool Tryz.underlying4 _) trodAll_mk0) hargs
  (fun _=>rfl) hg (ok_one (by kernel_rfl) rfl (okWide_bool_mk Tryz.underlying4 _))⟩
def layLt:Obj->Obj
 | .cells _ t frozen=>.cells #[.int .u16 1,.int .u16 0,.bool false,.int .u16 1,.int .u16 1,.bool false,.int .u16 0,.int .u16 1,.bool false] t frozen
 | o=>o
def lay64:Obj->Obj
 | .cells _ t frozen=>.cells (Lib.deBruijn64tab.map fun x:Nat=>Value.int .u8 (x:Int)).toArray t frozen
 | o=>o
def layPow:Obj->Obj
 | .cells _ t frozen=>.cells (Lib.pow10Tab.map fun x=>Value.int .u64 x).toArray t frozen
 | o=>o
def lay32:Obj->Obj
 | .cells _ t frozen=>.cells (Lib.deBruijn32tab.map fun x:Nat=>Value.int .u8 (x:Int)).toArray t frozen
 | o=>o
noncomputable def laidWorld (os:Os):World :=
 { World.holding Tryz.prog os ⟨#[],#[],[]⟩ with heap:=((((World.holding Tryz.prog os ⟨#[],#[],[]⟩).heap.modify 0 layLt).modify 1 lay64).modify 5 layPow).modify 6 lay32 }
theorem laid_met (os:Os):laidMet Tryz.prog Rows.codeFailsRow.laid ((laidWorld os).forCall (fun _ _=>0) ⟨#[],#[.agg #[.int .i64 0,.slice none 0 0],.string ⟨#[]⟩],[]⟩).memory :=
 laidMet_of_run' 8 (by kernel_rfl) (by kernel_rfl)
theorem reads (os:Os) {H:Type} (enc:TypeId × Value->H):∃ places,DataW.whole enc Tryz.prog ((laidWorld os).forCall (fun _ _=>0) ⟨#[],#[.agg #[.int .i64 0,.slice none 0 0],.string ⟨#[]⟩],[]⟩).memory Tryz.f3.params.toList Rows.codeFailsSpec.vars false (#[.agg #[.int .i64 0,.slice none 0 0],.string ⟨#[]⟩]:Array Value).toList 8=some ([.agg [.lit (.int .i64 0),.nil],.lit (.string [])],[],places) :=
 ⟨[],by kernel_rfl⟩
theorem lifted (os:Os) (started:os.Started) (H:Type) (enc:TypeId × Value->H) (F:Stop.Interp) :
  ReturnsInHanded {} Tryz.checked os 3 .any ((OpenSpec.ofChange Rows.codeFailsSpec).preRow enc Tryz.prog Tryz.f3 Rows.codeFailsRow.domain false Rows.codeFailsRow.laid) (((OpenSpec.ofChange Rows.codeFailsSpec).at F).post enc Tryz.prog Tryz.f3 false true false false):=by
 obtain ⟨places,hx⟩:=reads os enc;refine returnsInHanded_of_row (C:=Tryz.checked) (s:=OpenSpec.ofChange Rows.codeFailsSpec) own started (by kernel_rfl) Tryz.func3
  (witness_row_at (enc:=enc) (C:=Tryz.checked) false (laidWorld os) #[.agg #[.int .i64 0,.slice none 0 0],.string ⟨#[]⟩] rfl (by kernel_rfl) (by kernel_rfl) (by kernel_rfl)
   (OpenSpec.preRow_of_cond 8 hx (by kernel_rfl) (fun k hk=>by cases hk) (by kernel_rfl) (laid_met os))) ?_
 intro W base args ds gs before hval hW _ _ hz hL _ _;exact contract H enc W base args ds gs before hval hW hz hL
theorem said:Rows.CodeFailsSaid :=
 OpenClaim.holds_of_cond 3 Tryz.f3 rfl rfl rfl rfl rfl rfl rfl ⟨rfl,rfl,rfl,rfl,rfl⟩ rfl rfl rfl rfl rfl (by kernel_rfl) Tryz.func3 (by kernel_rfl)
  (of_decide_eq_true (by kernel_rfl)) (by unfold Func.isWrapper;first | (rw [qU (by decide +kernel)];kernel_rfl) | (rw [qE (by decide +kernel)];exact ⟨rfl,rfl⟩))
  (fun os started H enc _ F=>by rw [OpenClaim.pre_eq_preRow];exact lifted os started H enc F)
theorem plain (f : FuncId) (fn : Func) (hf : Tryz.pinned.checked.prog.funcNamed "qloom/qloomlaw.CodeFails" = some f) (hfn : Tryz.pinned.checked.prog.funcs[f]? = some fn) :
  false=Tryz.pinned.checked.prog.looks []/\∀ (j:Nat) t,fn.params[j]?=some t->Tryz.pinned.checked.prog.wantsStandIn t=false:=by
 obtain rfl : f = 3 := Option.some.inj ((show Tryz.prog.funcNamed "qloom/qloomlaw.CodeFails" = some 3 by kernel_rfl).symm.trans hf) |>.symm
 obtain rfl:fn=Tryz.f3:=(Option.some.inj (Tryz.func3.symm.trans hfn)).symm;refine ⟨by kernel_rfl,fun j t ht=>?_⟩;rw [Tryz.params3] at ht;have h:=Array.mem_of_getElem? ht;simp only [List.mem_toArray,List.mem_cons,List.not_mem_nil,or_false] at h
 rcases h with rfl | rfl
 ·exact (show Tryz.prog.wantsStandIn 24=false by kernel_rfl)
 ·exact (show Tryz.prog.wantsStandIn 9=false by kernel_rfl)
theorem card:Rows.CodeFailsCardSaid :=
 Claim7.holds_tied_plain_at .later [] _ _ _ _ said (fun _ h=>by cases h) (by kernel_rfl) (fun _ h=>by cases h) codeFails_row_tie rfl ⟨rfl,rfl⟩ (by kernel_rfl) rfl plain (by kernel_rfl)
end Go.Proofs.YtjfomkoedgipjaaGreatDoor.codeFails
namespace Go.Proofs.YtjfomkoedgipjaaGreatDoor
theorem codeFails_holds:Rows.CodeFailsCardSaid:=codeFails.card
end Go.Proofs.YtjfomkoedgipjaaGreatDoor
