/-
  For every code, text and int, CodeMeasures answers true and leaves its arguments as they were: the tied card. Conditions: the package variables qloom/circ.shapes and qloom/code.letters hold what the program text lays (the given tie); the card speaks of the pruned copy of the project that the seat's page names.
-/
import Derived.Test.YtlechhmhmakgpaaGreatDoorCards
import Derived.Test.YtlechhmhmakgpaaGreatDoorTie
import Derived.ChangeMaps5
import Derived.Deep.DeepHandedRow
import Derived.Lib.LaidTab
import Derived.Lib.TrailingZeros
import Derived.Test.YtlechhmhmakgpaaGreatDoorS25Ai
set_option maxRecDepth 100000
namespace Go.Proofs.YtlechhmhmakgpaaGreatDoor.codeMeasures
open Go.ChangeShapes Go.WideShapes Go.ChangeAt Go.RowKit Go.ChangeMaps
theorem laidOut:laidOutB Tryz.prog=true:=by kernel_rfl
theorem own:ownKnob Tryz.prog.godebug=none:=by kernel_rfl
theorem laid_head {P:Program} {x:String × DataW Unit} {r:List (String × DataW Unit)} {w:World} (h:laidMet P (x :: r) w):laidMet P [x] w:=by
 obtain ⟨ps,⟨g,t,cs,fuel,p,q,h1,h2,h3,h4,_,rfl⟩,hn,hf⟩:=h;refine ⟨MemPlace.row ⟨g,0,none⟩ cs.size++p++[],⟨g,t,cs,fuel,p,[],h1,h2,h3,h4,rfl,rfl⟩,?_,fun b off hm=>hf b off ?_⟩
 ·rw [List.append_nil]
  exact (List.nodup_append.1 hn).1
 ·rw [List.append_nil] at hm
  exact List.mem_append_left _ hm
theorem shp {W : World} (h : laidMetH Tryz.prog Rows.codeMeasuresRow.laid W) : Shp W := shp_of_laid (laid_head (x := ("qloom/circ.shapes", Rows.laid_qloom_circ_shapes)) h)
theorem ltl {W:World} (h:laidMetH Tryz.prog Rows.codeMeasuresRow.laid W):LtL W:=ltl_of_laid (laidMet.tail h)
theorem ba_ofC (t:ByteArray):(⟨t.data.toList.toArray⟩:ByteArray)=t:=by cases t;simp
theorem ba_lenC {t:ByteArray} (h:t.size<=maxLen):t.data.toList.length<=9223372036854775807:=by
 have h8:t.data.toList.length=t.size:=by rw [Array.length_toList];rfl
 unfold maxLen at h;omega
theorem contract (H:Type) (enc:TypeId × Value->H) (W:World) (base:Nat) (args:Array Value) (ds gs:List (DataW H)) (before:List MemPlace)
  (hval:∀ (j:Nat) t v,Tryz.f6.params[j]?=some t->args[j]?=some v->Value.okWide Tryz.prog W .any base t v)
  (hW:DataW.Whole enc Tryz.prog Tryz.f6.params.toList Rows.codeMeasuresSpec.vars false W args.toList ds gs before)
  (hz:(DataW.weightsEach Tryz.prog (Tryz.f6.params.toList++(OpenSpec.ofChange Rows.codeMeasuresSpec).bare.plain.varTypes Tryz.prog) (ds++gs)).all (·<=reachBytes)=true) (hL:laidMetH Tryz.prog Rows.codeMeasuresRow.laid W) :
  Calls Tryz.prog 6 args W fun e W'=>∃ v,e=.returned v/\Rows.codeMeasuresSpec.post enc Tryz.prog Tryz.f6 false true false false W args v W':=by
 have hW':=hW;obtain ⟨p,q,hA0,hV,rfl,hfz,hnd⟩:=hW;have hA:DataW.TrodAll enc Tryz.prog W 0 (fun _=>true) true Tryz.f6.params.toList args.toList ds p:=hA0;rw [Tryz.params6] at hA hval hz;obtain ⟨v0,vs0,d0,ds0,p0,q0,hargs,rfl,rfl,h0,r0⟩:=trodAll_cons hA;obtain ⟨v1,vs1,d1,ds1,p1,q1,rfl,rfl,rfl,h1,r1⟩:=trodAll_cons r0;obtain ⟨v2,vs2,d2,ds2,p2,q2,rfl,rfl,rfl,h2,r2⟩:=trodAll_cons r1;obtain ⟨rfl,rfl,rfl⟩:=trodAll_nil r2
 obtain rfl:args=#[v0,v1,v2]:=by cases args;simp_all
 obtain ⟨rfl,rfl⟩:=trodVars_none hV
 have hwt0:∀ k ∈ d0.weights Tryz.prog 59,k<=reachBytes:=fun k hk=>by
  have:=List.all_eq_true.1 hz k (DataW.weights_mem_each (j:=0) rfl rfl k hk)
  simpa using this
 obtain ⟨N0,gens0,ao0,n0,cp0,rfl,hO0,hT0,hbn0,hnil0,hN0⟩:=open_code (hval 0 59 v0 rfl rfl) h0 hwt0;obtain ⟨t1,rfl,rfl,rfl,hs1⟩:=open_string Tryz.underlying9 (hval 1 9 v1 rfl rfl) h1;obtain ⟨t2,rfl,rfl,rfl,hs2⟩:=open_int Tryz.underlying3 (hval 2 3 v2 rfl rfl) h2;clear hA0
 have hlt0:∀ x ∈ p0,x.block<W.heap.size:=fun x hx=>hW'.lt x (by simp [hx])
 simp only [List.append_nil] at hW';have hwk:=measures_walk N0 gens0 t1.data.toList t2 ao0 n0 cp0 W hO0 hT0 (ba_lenC hs1) hbn0 hnil0 (ltl hL) (shp hL);rw [ba_ofC t1] at hwk
 refine hwk.mono fun e W' ⟨he,hg⟩=>?_
 subst he
 have hargs:∀ sp:Nat->Bool,(∀ x ∈ p0,sp x.block=true)->DataW.TrodAll enc Tryz.prog W' 0 sp true Tryz.f6.params.toList [.agg #[.int .i64 N0,.slice ao0 n0 cp0],.string t1,.int .i64 t2] [d0,.lit (.string t1.data.toList),.lit (.int .i64 t2)] (p0):=by
  intro sp hsp;rw [Tryz.params6];have hfin:=trodAll_cons_mk (WideElems.Trod_stays laidOut (by kernel_rfl) (of_decide_eq_true (by kernel_rfl)) h0 (fun x hx=>Below.same hg (hlt0 x hx)) (fun x hx=>hsp x (by simp [hx]))) (trodAll_cons_mk (shut_string Tryz.underlying9 hs1) (trodAll_cons_mk (shut_int Tryz.underlying3 hs2) (trodAll_mk0)));simp only [List.append_nil] at hfin;exact hfin
 exact ⟨_,rfl,post_kept hW' (fun _ _ _=>trodAll_cons_mk (shut_bool Tryz.underlying4 _) trodAll_mk0) hargs
  (fun _=>rfl) hg (ok_one (by kernel_rfl) rfl (okWide_bool_mk Tryz.underlying4 _))⟩
def layLt:Obj->Obj
 | .cells _ t frozen=>.cells #[.int .u16 1,.int .u16 0,.bool false,.int .u16 1,.int .u16 1,.bool false,.int .u16 0,.int .u16 1,.bool false] t frozen
 | o=>o
def layShp:Obj->Obj
 | .cells _ t frozen=>.cells #[.string ⟨#[]⟩,.bool false,.bool false,.bool false,.bool false,.string ⟨#[112,104,97,115,101]⟩,.bool true,.bool false,.bool false,.bool false,.string ⟨#[120]⟩,.bool false,.bool true,.bool true,.bool false,.string ⟨#[104]⟩,.bool false,.bool true,.bool true,.bool false,.string ⟨#[112]⟩,.bool true,.bool true,.bool true,.bool false,.string ⟨#[109,101,97,115,117,114,101]⟩,.bool false,.bool true,.bool false,.bool true,.string ⟨#[114,101,115,101,116]⟩,.bool false,.bool true,.bool false,.bool false] t frozen
 | o=>o
noncomputable def laidWorld (os:Os):World :=
 { World.holding Tryz.prog os ⟨#[],#[],[]⟩ with heap:=((World.holding Tryz.prog os ⟨#[],#[],[]⟩).heap.modify 0 layShp).modify 3 layLt }
theorem laid_met (os:Os):laidMet Tryz.prog Rows.codeMeasuresRow.laid ((laidWorld os).forCall (fun _ _=>0) ⟨#[],#[.agg #[.int .i64 0,.slice none 0 0],.string ⟨#[]⟩,.int .i64 0],[]⟩).memory :=
 laidMet_of_run' 8 (by kernel_rfl) (by kernel_rfl)
theorem reads (os:Os) {H:Type} (enc:TypeId × Value->H):∃ places,DataW.whole enc Tryz.prog ((laidWorld os).forCall (fun _ _=>0) ⟨#[],#[.agg #[.int .i64 0,.slice none 0 0],.string ⟨#[]⟩,.int .i64 0],[]⟩).memory Tryz.f6.params.toList Rows.codeMeasuresSpec.vars false (#[.agg #[.int .i64 0,.slice none 0 0],.string ⟨#[]⟩,.int .i64 0]:Array Value).toList 8=some ([.agg [.lit (.int .i64 0),.nil],.lit (.string []),.lit (.int .i64 0)],[],places) :=
 ⟨[],by kernel_rfl⟩
theorem lifted (os:Os) (started:os.Started) (H:Type) (enc:TypeId × Value->H) (F:Stop.Interp) :
  ReturnsInHanded {} Tryz.checked os 6 .any ((OpenSpec.ofChange Rows.codeMeasuresSpec).preRow enc Tryz.prog Tryz.f6 Rows.codeMeasuresRow.domain false Rows.codeMeasuresRow.laid) (((OpenSpec.ofChange Rows.codeMeasuresSpec).at F).post enc Tryz.prog Tryz.f6 false true false false):=by
 obtain ⟨places,hx⟩:=reads os enc;refine returnsInHanded_of_row (C:=Tryz.checked) (s:=OpenSpec.ofChange Rows.codeMeasuresSpec) own started (by kernel_rfl) Tryz.func6
  (witness_row_at (enc:=enc) (C:=Tryz.checked) false (laidWorld os) #[.agg #[.int .i64 0,.slice none 0 0],.string ⟨#[]⟩,.int .i64 0] rfl (by kernel_rfl) (by kernel_rfl) (by kernel_rfl)
   (OpenSpec.preRow_of_cond 8 hx (by kernel_rfl) (fun k hk=>by cases hk) (by kernel_rfl) (laid_met os))) ?_
 intro W base args ds gs before hval hW _ _ hz hL _ _;exact contract H enc W base args ds gs before hval hW hz hL
theorem said:Rows.CodeMeasuresSaid :=
 OpenClaim.holds_of_cond 6 Tryz.f6 rfl rfl rfl rfl rfl rfl rfl ⟨rfl,rfl,rfl,rfl,rfl⟩ rfl rfl rfl rfl rfl (by kernel_rfl) Tryz.func6 (by kernel_rfl)
  (of_decide_eq_true (by kernel_rfl)) (by unfold Func.isWrapper;first | (rw [if_pos (by decide +kernel)];kernel_rfl) | (rw [if_neg (by decide +kernel)];exact ⟨rfl,rfl⟩))
  (fun os started H enc _ F=>by rw [OpenClaim.pre_eq_preRow];exact lifted os started H enc F)
theorem plain (f : FuncId) (fn : Func) (hf : Tryz.pinned.checked.prog.funcNamed "qloom/qloomlaw.CodeMeasures" = some f) (hfn : Tryz.pinned.checked.prog.funcs[f]? = some fn) :
  false=Tryz.pinned.checked.prog.looks []/\∀ (j:Nat) t,fn.params[j]?=some t->Tryz.pinned.checked.prog.wantsStandIn t=false:=by
 obtain rfl : f = 6 := Option.some.inj ((show Tryz.prog.funcNamed "qloom/qloomlaw.CodeMeasures" = some 6 by kernel_rfl).symm.trans hf) |>.symm
 obtain rfl:fn=Tryz.f6:=(Option.some.inj (Tryz.func6.symm.trans hfn)).symm;refine ⟨by kernel_rfl,fun j t ht=>?_⟩;rw [Tryz.params6] at ht;have h:=Array.mem_of_getElem? ht;simp only [List.mem_toArray,List.mem_cons,List.not_mem_nil,or_false] at h
 rcases h with rfl | rfl | rfl
 ·exact (show Tryz.prog.wantsStandIn 59=false by kernel_rfl)
 ·exact (show Tryz.prog.wantsStandIn 9=false by kernel_rfl)
 ·exact (show Tryz.prog.wantsStandIn 3=false by kernel_rfl)
theorem card:Rows.CodeMeasuresCardSaid :=
 Claim7.holds_tied_plain_at .later [] _ _ _ _ said (fun _ h=>by cases h) (by kernel_rfl) (fun _ h=>by cases h) codeMeasures_row_tie rfl ⟨rfl,rfl⟩ (by kernel_rfl) rfl plain (by kernel_rfl)
end Go.Proofs.YtlechhmhmakgpaaGreatDoor.codeMeasures
namespace Go.Proofs.YtlechhmhmakgpaaGreatDoor
theorem codeMeasures_holds:Rows.CodeMeasuresCardSaid:=codeMeasures.card
end Go.Proofs.YtlechhmhmakgpaaGreatDoor
