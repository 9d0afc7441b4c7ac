/-
  The reference: differences. A region that draws its order, calls one function behind the other, and makes one or two variables that wait for nothing: the variables may be made ahead of, between or behind the calls. What is asked of the calls is asked once, in every world that extends the one at hand. A list of the reference's numbers of circuits in memory: a state. Loads and stores of one of them. The reference: bits of basis states; a basis state; what an outcome leaves. A gate's work as the reference does it: basis state by basis state, in plain numbers. Lists: what stands in one; conditions; controls. (The program's, and the reference's member.) Operations in memory; controls; the first fault of an operation, as the program finds it.
-/
import Derived.Laws.IdiomCopy
import Derived.OrdersHeld
import Derived.ProofKit
import Derived.RegionTactic
import Derived.Test.YtfjnlopbmkimiaaGreatDoorS12Ugq
namespace Go.Proofs.YtfjnlopbmkimiaaGreatDoor
set_option maxRecDepth 100000
set_option maxHeartbeats 4000000
open Go.RowKit
variable {Qc:Nat->Prop}
open Go.RowKit
theorem QSub_nm (ca cb:Array Value) (x y:Nm) (P E:Nat) (w:World) (h1:RmA Qc w ca x P E) (h2:RmA Qc w cb y P E) (hP:P+E+1<=400000) (hE:E<=10000) (hL:LimQ Qc w) :
  Calls Tryz.prog 101 #[.agg ca,.agg cb] w fun e w'=>∃ (cr:Array Value) (z:Nm),e=.returned (.agg cr)/\RmA Qc w' cr z (P+E+1) E/\EqN z (nAdd x (nNeg y))/\Ext w w':=by
 obtain ⟨H,hH⟩:∃ H,w.heap.size=H:=⟨_,rfl⟩;obtain ⟨U,hU⟩:∃ U,(((w.alloc (.cells ca 48)).alloc (.cells cb 48)).alloc (.cells zeroR 48))=U:=⟨_,rfl⟩
 have E0:Ext w U:=by rw [<-hU];exact ((Ext.alloc _ _).trans (Ext.alloc _ _)).trans (Ext.alloc _ _)
 have hrA:U.heap[H]?=some (.cells ca 48 (0,0)):=by rw [<-hU,<-hH];exact (((Ext.alloc _ _).trans (Ext.alloc _ _)).block _ (gS.1 (heap_alloc_new w (.cells ca 48))).1).trans (heap_alloc_new w _)
 have hrB:U.heap[H+1]?=some (.cells cb 48 (0,0)):=by
  have h3:=heap_alloc_new (w.alloc (.cells ca 48)) (.cells cb 48);have h4:=((Ext.alloc ((w.alloc (.cells ca 48)).alloc (.cells cb 48)) (.cells zeroR 48)).block _ (gS.1 h3).1).trans h3;rw [<-hU,<-hH]
  simpa using h4
 have Z0:ZVar Qc U (H+2) (fun _=>0) 0:=by
  have:=(zcs_zero (Qc:=Qc) ((w.alloc (.cells ca 48)).alloc (.cells cb 48))).box;rw [<-hU,<-hH]
  simpa using this
 have lA:=(gS.1 hrA).1;have lB:=(gS.1 hrB).1;have HNe:=Lh (fun (wx:World) (hx:Ext U wx)=>QNeg_nm cb y P E wx (h2.ext (E0.trans hx)) (by omega));have HAd:=Lh (fun (wx:World) (hx:Ext U wx) (cn:Array Value) (hn:RmA Qc wx cn (nNeg y) P E)=>QAdd_nm ca cn x (nNeg y) P E wx (h1.ext (E0.trans hx)) hn hP hE (hL.grow (E0.trans hx).size));have hi1:=h1.info;have hi2:=h2.info;have HU:=Lh hU;have HH:=Lh hH;have HZ0:=Lh Z0;have HE0:=Lh E0;clear hU hH Z0 E0 h1 h2 hP hE
 go_enter Tryz.func101,Tryz.ntmps101
 go_upto_region 1 with fail
 rw [HU.out,HH.out];clear HU;have hd0:Ext U U.drew:=Below.drew (Ext.refl _);refine wp_region_K 4 (fun w'=>w'.heap[H]?=some (.cells ca 48 (0,0))/\w'.heap[H+1]?=some (.cells cb 48 (0,0))) (by kernel_rfl) ?_
 show anyK _ _ _ _ _ _ 5 #[false,false,false,false,false] _ _
 have hHeld:U.drew.heap[H]?=some (.cells ca 48 (0,0))/\U.drew.heap[H+1]?=some (.cells cb 48 (0,0)):=⟨(hd0.block _ lA).trans hrA,(hd0.block _ lB).trans hrB⟩;refine kT 0 5 (v:=.agg ca) rfl (Or.inl ⟨by rfl,?_⟩) hHeld ?_
 ·intro w hSw
  exact exec_load_row 48 _ rfl (H) rfl 48 _ (0,0) _ hSw.1 Tryz.underlying48 rfl hi1
 show anyK _ _ _ _ _ _ _ _ (Act.put _ (some 5) _) _
 simp only [Act.put,sx0,sx1,sx2];refine kT 1 5 (v:=.agg cb) rfl (Or.inl ⟨by rfl,?_⟩) hHeld ?_
 ·intro w hSw
  exact exec_load_row 48 _ rfl (H+1) rfl 48 _ (0,0) _ hSw.2 Tryz.underlying48 rfl hi2
 show anyK _ _ _ _ _ _ _ _ (Act.put _ (some 6) _) _
 simp only [Act.put,sx0,sx1,sx2];clear hHeld;refine anyK_one (i:=2) (by kernel_rfl) rfl (fun Kk hKk=>?_)
 go_simp
 (go_at_call 69;refine (HNe.out _ hd0).mono ?_;rintro e w1 ⟨cn,rfl,hn1,hxx⟩)
 have he1:=hd0.trans hxx
 go_wp2_with fail
 refine hKk.out _ _ (fun _=>⟨(he1.block _ lA).trans hrA,(he1.block _ lB).trans hrB⟩) ?_;clear hKk Kk hxx;simp only [sx0,sx1,sx2];refine anyK_one (i:=3) (by kernel_rfl) rfl (fun Kk hKk=>?_)
 go_simp
 (go_at_call 38;refine (HAd.out w1 he1 cn hn1).mono ?_;rintro e w2 ⟨cr,z,rfl,hcr,hy,hxx⟩)
 have he2:=he1.trans hxx
 go_wp2_with fail
 refine hKk.out _ _ (fun _=>⟨(he2.block _ lA).trans hrA,(he2.block _ lB).trans hrB⟩) ?_;clear hKk Kk hxx;simp only [sx0,sx1,sx2];obtain ⟨c1,hr1,hs1,hone,hinf,rr,hnm,hE'⟩:=fin_rm hcr.val (HZ0.out.ext he2) (HE0.out.trans he2) (by rw [HH.out];omega);have Hend:=Lh (show RmA Qc (w2.setRow (H+2) cr) cr z (P+E+1) E/\EqN z (nAdd x (nNeg y))/\Ext w (w2.setRow (H+2) cr) from ⟨⟨hcr.anti,hcr.low,hcr.abs,hcr.down,hnm⟩,hy,hE'⟩);clear hnm hE' hcr hy;refine anyK_one (i:=4) (by kernel_rfl) rfl (fun Kk hKk=>?_);refine stepK_storeR rfl rfl 48 _ _ rfl (H+2) cr rfl rfl 48 _ hr1 hinf hs1 hone ?_;refine hKk.out _ _ (fun h=>Bool.noConfusion (show true=false from h)) ?_;clear hKk Kk;simp only [sx0,sx1,sx2];refine anyK_done (by kernel_rfl) ?_ _
 go_wp2_with fail
 refine bodyPost_ret (v:=.agg cr) ?_ rfl ⟨_,_,rfl,Hend.out⟩;exact results_cell_row rfl _ _ (H+2) _ _ _ _ rfl rr Tryz.underlying48 rfl hinf
theorem extN (w:World) (o:Obj):Ext w (w.alloc o):=(Below.refl _ _).alloc (Nat.le_refl _) o
section
variable {P:Program} {md:Region.Mode} {ops:Array Oper} {Q:Exit->Act->World->Prop} {S:World->Prop}
theorem anyH_one {i:Nat} {o:Oper} {n:Nat} {l:Array Bool} {a:Act} {w:World} (hr:Region.ready md ops l=[i]) (ho:ops[i]?=some o)
  (h:∀ K':Act->World->Prop,Shut (∀ a w,S w->wpAnyH P md ops Q S n (l.setIfInBounds i true) a w->K' a w)->if Region.wanted o (yielded ops a.tmps)=true then Oper.wp P o a w K' Q else K' (a.put o.dst undef) w) :
  wpAnyH P md ops Q S (n+1) l a w:=by
 refine ⟨fun h0=>(by rw [hr] at h0;cases h0),fun j hj=>?_⟩;rw [hr] at hj
 rcases List.mem_singleton.1 hj with rfl
 exact wpOp_step ho (fun K' hK=>h K' (fun a w hS hW=>hK a w ⟨hS,hW⟩))
def IsAlloc (P:Program) (ops:Array Oper) (j d:Nat) (ty:TypeId) (z:Array Value):Prop :=
 ∃ o,ops[j]?=some o/\o.dst=some d/\(∀ a:Act,Region.wanted o (yielded ops a.tmps)=true)/\∀ (a:Act) (w:World),(execOp a.eval o).run P w=.ok (.value (.pointer (some ⟨w.heap.size,0,none⟩))) (w.alloc (.cells z ty))
theorem wpOp_alloc {j d:Nat} {ty:TypeId} {z:Array Value} (hA:IsAlloc P ops j d ty z) {K:Act->World->Prop} {a:Act} {w:World} (h:K (a.put (some d) (.pointer (some ⟨w.heap.size,0,none⟩))) (w.alloc (.cells z ty))):wpOp P ops Q j K a w:=by
 obtain ⟨o,ho,hd,hw,hrun⟩:=hA
 refine wpOp_step ho fun K' hK=>?_
 rw [if_pos (hw a)];unfold Oper.wp;rw [hrun,Oper.upon_value,hd];exact hK _ _ h
theorem wpOp_call {i:Nat} {o:Oper} {a:Act} {w:World} (ho:ops[i]?=some o) (hw:Region.wanted o (yielded ops a.tmps)=true) {f:FuncId} {args:Array Value}
  (hrun:(execOp a.eval o).run P w=.ok (.enter f args) w) {R:Value->World->Prop} (hc:Calls P f args w fun e w'=>∃ v,e=.returned v/\R v w') {K:Act->World->Prop} (h:∀ v w',R v w'->K (a.put o.dst v) w'):wpOp P ops Q i K a w:=by
 refine wpOp_step ho fun K' hK=>?_
 rw [if_pos hw];unfold Oper.wp;rw [hrun,Oper.upon_enter];refine hc.mono ?_;rintro e w' ⟨v,rfl,hv⟩;exact hK _ _ (h v w' hv)
def NewV (W0 w:World) (ty:TypeId) (z:Array Value) (D:Nat):Prop:=W0.heap.size<=D/\w.heap[D]?=some (.cells z ty (0,0))
theorem NewV.ext {W0 w w':World} {ty:TypeId} {z:Array Value} {D:Nat} (h:NewV W0 w ty z D) (k:Ext w w'):NewV W0 w' ty z D:=⟨h.1,(k.block _ (gS.1 h.2).1).trans h.2⟩
theorem newV_alloc {W0 w:World} (h:Ext W0 w) (ty:TypeId) (z:Array Value):NewV W0 (w.alloc (.cells z ty)) ty z w.heap.size:=⟨h.size,heap_alloc_new w _⟩
theorem NewV.lt {W0 w:World} {ty:TypeId} {z:Array Value} {D:Nat} (h:NewV W0 w ty z D):D<w.heap.size:=(gS.1 h.2).1
abbrev ptrV (D:Nat):Value:=.pointer (some ⟨D,0,none⟩)
def Flo1 (P:Program) (md:Region.Mode) (ops:Array Oper) (Q:Exit->Act->World->Prop) (S:World->Prop) (W0:World) (ty:TypeId) (z:Array Value) (n:Nat) (l:Bool->Array Bool) (fr:Value->Act) (w:World):Prop :=
 ∀ wx,Ext w wx->wpAnyH P md ops Q S (n+1) (l false) (fr undef) wx/\∀ D,NewV W0 wx ty z D->wpAnyH P md ops Q S n (l true) (fr (ptrV D)) wx
theorem Flo1.start {W0 w:World} {ty:TypeId} {z:Array Value} {n:Nat} {l:Bool->Array Bool} {fr:Value->Act} (h:Flo1 P md ops Q S W0 ty z n l fr w):wpAnyH P md ops Q S (n+1) (l false) (fr undef) w:=(h w (Ext.refl _)).1
theorem Flo1.call {W0 w:World} {ty:TypeId} {z:Array Value} {n:Nat} {l:Bool->Array Bool} {fr:Value->Act} {j d:Nat} (hA:IsAlloc P ops j d ty z) (hS:∀ w',Ext W0 w'->S w') (hw:Ext W0 w) (i:Nat) {o:Oper} (ho:ops[i]?=some o)
  (hr:∀ p,Region.ready md ops (l p)=i :: (if p then [] else [j])) (hl:(l false).setIfInBounds j true=l true) (hfr:∀ t v,(fr t).put (some d) v=fr v)
  (hwa:∀ t,Region.wanted o (yielded ops (fr t).tmps)=true) (f:FuncId) (args:Array Value) (hrun:∀ t wx,(execOp (fr t).eval o).run P wx=.ok (.enter f args) wx)
  {R:Value->World->Prop} (hc:∀ wx,Ext w wx->Calls P f args wx fun e w'=>∃ v,e=.returned v/\R v w'/\Ext wx w') (l':Bool->Array Bool) (hl':∀ p,(l p).setIfInBounds i true=l' p) (fr':Value->Value->Act) (hf':∀ v t,(fr t).put o.dst v=fr' v t)
  (next:∀ v w',R v w'->Ext w w'->Flo1 P md ops Q S W0 ty z n l' (fr' v) w'):Flo1 P md ops Q S W0 ty z (n+1) l fr w:=by
 have two:∀ wx,Ext w wx->∀ D,NewV W0 wx ty z D->wpAnyH P md ops Q S (n+1) (l true) (fr (ptrV D)) wx:=fun wx hx D hD=>by
  have hr1:Region.ready md ops (l true)=[i]:=hr true;refine ⟨fun h0=>(by rw [hr1] at h0;cases h0),fun t ht=>?_⟩;rw [hr1] at ht
  rcases List.mem_singleton.1 ht with rfl
  refine wpOp_call ho (hwa _) (hrun _ _) (hc wx hx) fun v w' ⟨hv,hx'⟩=>?_
  rw [hl',hf'];exact ⟨hS _ ((hw.trans hx).trans hx'),(next v w' hv (hx.trans hx') w' (Ext.refl _)).2 D (hD.ext hx')⟩
 intro wx hx;refine ⟨?_,two wx hx⟩;have hr0:Region.ready md ops (l false)=[i,j]:=hr false;refine ⟨fun h0=>(by rw [hr0] at h0;cases h0),fun t ht=>?_⟩;rw [hr0] at ht
 rcases List.mem_cons.1 ht with rfl | ht
 ·refine wpOp_call ho (hwa _) (hrun _ _) (hc wx hx) fun v w' ⟨hv,hx'⟩=>?_
  rw [hl',hf'];exact ⟨hS _ ((hw.trans hx).trans hx'),(next v w' hv (hx.trans hx') w' (Ext.refl _)).1⟩
 ·rcases List.mem_singleton.1 ht with rfl
  refine wpOp_alloc hA ?_;rw [hl,hfr];have he:=extN wx (.cells z ty);exact ⟨hS _ ((hw.trans hx).trans he),two _ (hx.trans he) _ (newV_alloc (hw.trans hx) ty z)⟩
theorem Flo1.take {W0 w:World} {ty:TypeId} {z:Array Value} {n:Nat} {l:Bool->Array Bool} {fr:Value->Act} (hS:∀ w',Ext W0 w'->S w') (hw:Ext W0 w) (i:Nat) {o:Oper} (v:Value) (ho:ops[i]?=some o) (hs:Region.noSelect ops=true)
  (hf:∀ p,Region.free md ops (l p) i=true) (hr:∀ p,(Region.ready md ops (l p)).contains i=true) (hQ:∀ c a w,Q (.panic c) (a.put o.dst v) w->Q (.panic c) a w) (hy:∀ t,YieldsIf P ops S o v (fr t))
  (l':Bool->Array Bool) (hl':∀ p,(l p).setIfInBounds i true=l' p) (fr':Value->Act) (hf':∀ t,(fr t).put o.dst v=fr' t)
  (next:Flo1 P md ops Q S W0 ty z n l' fr' w):Flo1 P md ops Q S W0 ty z (n+1) l fr w:=fun wx hx =>
 ⟨wpAnyH_take ho hs (hf _) (hr _) hQ (hy _) (hS _ (hw.trans hx)) (by rw [hl',hf'];exact (next wx hx).1),fun D hD=>wpAnyH_take ho hs (hf _) (hr _) hQ (hy _) (hS _ (hw.trans hx)) (by rw [hl',hf'];exact (next wx hx).2 D hD)⟩
theorem Flo1.done {W0 w:World} {ty:TypeId} {z:Array Value} {n:Nat} {l:Bool->Array Bool} {fr:Value->Act} {j d:Nat} (hA:IsAlloc P ops j d ty z) (hS:∀ w',Ext W0 w'->S w') (hw:Ext W0 w)
  (hr:Region.ready md ops (l false)=[j]) (hl:(l false).setIfInBounds j true=l true) (hfr:∀ t v,(fr t).put (some d) v=fr v)
  (h:∀ wx,Ext w wx->∀ D,NewV W0 wx ty z D->wpAnyH P md ops Q S n (l true) (fr (ptrV D)) wx):Flo1 P md ops Q S W0 ty z n l fr w:=by
 intro wx hx;refine ⟨?_,h wx hx⟩;refine ⟨fun h0=>(by rw [hr] at h0;cases h0),fun t ht=>?_⟩;rw [hr] at ht
 rcases List.mem_singleton.1 ht with rfl
 refine wpOp_alloc hA ?_;rw [hl,hfr];have he:=extN wx (.cells z ty);exact ⟨hS _ ((hw.trans hx).trans he),h _ (hx.trans he) _ (newV_alloc (hw.trans hx) ty z)⟩
def Flo2 (P:Program) (md:Region.Mode) (ops:Array Oper) (Q:Exit->Act->World->Prop) (S:World->Prop) (W0:World) (ty:TypeId) (z:Array Value) (ty':TypeId) (z':Array Value) (n:Nat) (l:Bool->Bool->Array Bool) (fr:Value->Value->Act) (w:World):Prop :=
 ∀ wx,Ext w wx->wpAnyH P md ops Q S (n+2) (l false false) (fr undef undef) wx/\(∀ D,NewV W0 wx ty z D->wpAnyH P md ops Q S (n+1) (l true false) (fr (ptrV D) undef) wx) /\
  (∀ D,NewV W0 wx ty' z' D->wpAnyH P md ops Q S (n+1) (l false true) (fr undef (ptrV D)) wx)/\∀ D D',NewV W0 wx ty z D->NewV W0 wx ty' z' D'->D≠D'->wpAnyH P md ops Q S n (l true true) (fr (ptrV D) (ptrV D')) wx
theorem Flo2.start {W0 w:World} {ty ty':TypeId} {z z':Array Value} {n:Nat} {l:Bool->Bool->Array Bool} {fr:Value->Value->Act} (h:Flo2 P md ops Q S W0 ty z ty' z' n l fr w):wpAnyH P md ops Q S (n+2) (l false false) (fr undef undef) w:=(h w (Ext.refl _)).1
theorem Flo2.of {W0 w:World} {ty ty':TypeId} {z z':Array Value} {n:Nat} {l:Bool->Bool->Array Bool} {fr:Value->Value->Act} {j d j' d':Nat} (hA:IsAlloc P ops j d ty z) (hA':IsAlloc P ops j' d' ty' z') (hS:∀ w',Ext W0 w'->S w') (hw:Ext W0 w)
  (hl:∀ q,(l false q).setIfInBounds j true=l true q) (hl':∀ p,(l p false).setIfInBounds j' true=l p true) (hfr:∀ t t' v,(fr t t').put (some d) v=fr v t') (hfr':∀ t t' v,(fr t t').put (some d') v=fr t v)
  (M:(p q:Bool)->List Nat) (hr:∀ p q,Region.ready md ops (l p q)=M p q++((if p then [] else [j])++(if q then [] else [j'])))
  (hm:∀ p q,∀ i ∈ M p q,∀ t t' wx,Ext w wx->(p=true->∃ D,t=ptrV D/\NewV W0 wx ty z D/\(q=true->∀ D',t'=ptrV D'->D≠D'))->(p=false->t=undef)->(q=true->∃ D,t'=ptrV D/\NewV W0 wx ty' z' D)->(q=false->t'=undef) ->
   wpOp P ops Q i (fun a' w'=>S w'/\wpAnyH P md ops Q S (n+(if p then 0 else 1)+(if q then 0 else 1)) ((l p q).setIfInBounds i true) a' w') (fr t t') wx)
  (hne:M true true≠[]):Flo2 P md ops Q S W0 ty z ty' z' (n+1) l fr w:=by
 have tt:∀ wx,Ext w wx->∀ D D',NewV W0 wx ty z D->NewV W0 wx ty' z' D'->D≠D'->wpAnyH P md ops Q S (n+1) (l true true) (fr (ptrV D) (ptrV D')) wx:=fun wx hx D D' hD hD' hne'=>by
  have hr1:Region.ready md ops (l true true)=M true true:=by rw [hr];simp
  refine ⟨fun h0=>absurd (hr1 ▸ h0) hne,fun i hi=>?_⟩;rw [hr1] at hi;exact hm true true i hi _ _ wx hx (fun _=>⟨D,rfl,hD,fun _ D2 e=>by injection e with e;injection e with e;injection e with e;omega⟩) (fun h=>by cases h) (fun _=>⟨D',rfl,hD'⟩) (fun h=>by cases h)
 have tf:∀ wx,Ext w wx->∀ D,NewV W0 wx ty z D->wpAnyH P md ops Q S (n+2) (l true false) (fr (ptrV D) undef) wx:=fun wx hx D hD=>by
  have hr1:Region.ready md ops (l true false)=M true false++[j']:=by rw [hr];simp
  refine ⟨fun h0=>(by rw [hr1] at h0;simp at h0),fun i hi=>?_⟩;rw [hr1] at hi
  rcases List.mem_append.1 hi with hi | hi
  ·exact hm true false i hi _ _ wx hx (fun _=>⟨D,rfl,hD,fun h=>by cases h⟩) (fun h=>by cases h) (fun h=>by cases h) (fun _=>rfl)
  ·rcases List.mem_singleton.1 hi with rfl
   refine wpOp_alloc hA' ?_;rw [hl',hfr'];have he:=extN wx (.cells z' ty');exact ⟨hS _ ((hw.trans hx).trans he),tt _ (hx.trans he) _ _ (hD.ext he) (newV_alloc (hw.trans hx) ty' z') (Nat.ne_of_lt hD.lt)⟩
 have ft:∀ wx,Ext w wx->∀ D,NewV W0 wx ty' z' D->wpAnyH P md ops Q S (n+2) (l false true) (fr undef (ptrV D)) wx:=fun wx hx D hD=>by
  have hr1:Region.ready md ops (l false true)=M false true++[j]:=by rw [hr];simp
  refine ⟨fun h0=>(by rw [hr1] at h0;simp at h0),fun i hi=>?_⟩;rw [hr1] at hi
  rcases List.mem_append.1 hi with hi | hi
  ·exact hm false true i hi _ _ wx hx (fun h=>by cases h) (fun _=>rfl) (fun _=>⟨D,rfl,hD⟩) (fun h=>by cases h)
  ·rcases List.mem_singleton.1 hi with rfl
   refine wpOp_alloc hA ?_;rw [hl,hfr];have he:=extN wx (.cells z ty);exact ⟨hS _ ((hw.trans hx).trans he),tt _ (hx.trans he) _ _ (newV_alloc (hw.trans hx) ty z) (hD.ext he) (Nat.ne_of_gt hD.lt)⟩
 intro wx hx;refine ⟨?_,tf wx hx,ft wx hx,tt wx hx⟩
 have hr1:Region.ready md ops (l false false)=M false false++[j,j']:=by rw [hr];simp
 refine ⟨fun h0=>(by rw [hr1] at h0;simp at h0),fun i hi=>?_⟩;rw [hr1] at hi
 rcases List.mem_append.1 hi with hi | hi
 ·exact hm false false i hi _ _ wx hx (fun h=>by cases h) (fun _=>rfl) (fun h=>by cases h) (fun _=>rfl)
 ·rcases List.mem_cons.1 hi with rfl | hi
  ·refine wpOp_alloc hA ?_
   rw [hl,hfr];have he:=extN wx (.cells z ty);exact ⟨hS _ ((hw.trans hx).trans he),tf _ (hx.trans he) _ (newV_alloc (hw.trans hx) ty z)⟩
  ·rcases List.mem_singleton.1 hi with rfl
   refine wpOp_alloc hA' ?_;rw [hl',hfr'];have he:=extN wx (.cells z' ty');exact ⟨hS _ ((hw.trans hx).trans he),ft _ (hx.trans he) _ (newV_alloc (hw.trans hx) ty' z')⟩
theorem Flo2.call {W0 w:World} {ty ty':TypeId} {z z':Array Value} {n:Nat} {l:Bool->Bool->Array Bool} {fr:Value->Value->Act} {j d j' d':Nat} (hA:IsAlloc P ops j d ty z) (hA':IsAlloc P ops j' d' ty' z') (hS:∀ w',Ext W0 w'->S w') (hw:Ext W0 w) (i:Nat) {o:Oper} (ho:ops[i]?=some o)
  (hl:∀ q,(l false q).setIfInBounds j true=l true q) (hl':∀ p,(l p false).setIfInBounds j' true=l p true) (hfr:∀ t t' v,(fr t t').put (some d) v=fr v t') (hfr':∀ t t' v,(fr t t').put (some d') v=fr t v)
  (hr:∀ p q,Region.ready md ops (l p q)=[i]++((if p then [] else [j])++(if q then [] else [j'])))
  (hwa:∀ t t',Region.wanted o (yielded ops (fr t t').tmps)=true) (f:FuncId) (args:Array Value) (hrun:∀ t t' wx,(execOp (fr t t').eval o).run P wx=.ok (.enter f args) wx)
  {R:Value->World->Prop} (hc:∀ wx,Ext w wx->Calls P f args wx fun e w'=>∃ v,e=.returned v/\R v w'/\Ext wx w') (m:Bool->Bool->Array Bool) (hm:∀ p q,(l p q).setIfInBounds i true=m p q) (fr':Value->Value->Value->Act) (hf':∀ v t t',(fr t t').put o.dst v=fr' v t t')
  (next:∀ v w',R v w'->Ext w w'->Flo2 P md ops Q S W0 ty z ty' z' n m (fr' v) w'):Flo2 P md ops Q S W0 ty z ty' z' (n+1) l fr w:=by
 refine Flo2.of hA hA' hS hw hl hl' hfr hfr' (fun _ _=>[i]) hr ?_ (by simp);intro p q k hk t t' wx hx h1 h2 h3 h4
 rcases List.mem_singleton.1 hk with rfl
 refine wpOp_call ho (hwa _ _) (hrun _ _ _) (hc wx hx) fun v w' ⟨hv,hx'⟩=>?_
 rw [hm,hf'];refine ⟨hS _ ((hw.trans hx).trans hx'),?_⟩;have hn:=next v w' hv (hx.trans hx') w' (Ext.refl _)
 cases p<;>cases q
 ·rw [h2 rfl,h4 rfl];exact hn.1
 ·obtain ⟨D,rfl,hD⟩:=h3 rfl
  rw [h2 rfl];exact hn.2.2.1 D (hD.ext hx')
 ·obtain ⟨D,rfl,hD,_⟩:=h1 rfl
  rw [h4 rfl];exact hn.2.1 D (hD.ext hx')
 ·obtain ⟨D,rfl,hD,hne⟩:=h1 rfl
  obtain ⟨D',rfl,hD'⟩:=h3 rfl;exact hn.2.2.2 D D' (hD.ext hx') (hD'.ext hx') (hne rfl D' rfl)
theorem Flo2.take {W0 w:World} {ty ty':TypeId} {z z':Array Value} {n:Nat} {l:Bool->Bool->Array Bool} {fr:Value->Value->Act} (hS:∀ w',Ext W0 w'->S w') (hw:Ext W0 w) (i:Nat) {o:Oper} (v:Value) (ho:ops[i]?=some o) (hs:Region.noSelect ops=true)
  (hf:∀ p q,Region.free md ops (l p q) i=true) (hr:∀ p q,(Region.ready md ops (l p q)).contains i=true) (hQ:∀ c a w,Q (.panic c) (a.put o.dst v) w->Q (.panic c) a w) (hy:∀ t t',YieldsIf P ops S o v (fr t t'))
  (l':Bool->Bool->Array Bool) (hl':∀ p q,(l p q).setIfInBounds i true=l' p q) (fr':Value->Value->Act) (hf':∀ t t',(fr t t').put o.dst v=fr' t t')
  (next:Flo2 P md ops Q S W0 ty z ty' z' n l' fr' w):Flo2 P md ops Q S W0 ty z ty' z' (n+1) l fr w:=fun wx hx =>
 have k:=fun {fuel:Nat} {p q:Bool} {t t':Value} (h:wpAnyH P md ops Q S fuel (l' p q) (fr' t t') wx)=>wpAnyH_take (fuel:=fuel) ho hs (hf p q) (hr p q) hQ (hy t t') (hS _ (hw.trans hx)) (by rw [hl',hf'];exact h)
 ⟨k (next wx hx).1,fun D hD=>k ((next wx hx).2.1 D hD),fun D hD=>k ((next wx hx).2.2.1 D hD),fun D D' hD hD' hne=>k ((next wx hx).2.2.2 D D' hD hD' hne)⟩
theorem Flo2.done {W0 w:World} {ty ty':TypeId} {z z':Array Value} {n:Nat} {l:Bool->Bool->Array Bool} {fr:Value->Value->Act} {j d j' d':Nat} (hA:IsAlloc P ops j d ty z) (hA':IsAlloc P ops j' d' ty' z') (hS:∀ w',Ext W0 w'->S w') (hw:Ext W0 w)
  (hl:∀ q,(l false q).setIfInBounds j true=l true q) (hl':∀ p,(l p false).setIfInBounds j' true=l p true) (hfr:∀ t t' v,(fr t t').put (some d) v=fr v t') (hfr':∀ t t' v,(fr t t').put (some d') v=fr t v)
  (hr:∀ p q,(p && q)=false->Region.ready md ops (l p q)=((if p then [] else [j])++(if q then [] else [j'])))
  (h:∀ wx,Ext w wx->∀ D D',NewV W0 wx ty z D->NewV W0 wx ty' z' D'->D≠D'->wpAnyH P md ops Q S n (l true true) (fr (ptrV D) (ptrV D')) wx):Flo2 P md ops Q S W0 ty z ty' z' n l fr w:=by
 have tf:∀ wx,Ext w wx->∀ D,NewV W0 wx ty z D->wpAnyH P md ops Q S (n+1) (l true false) (fr (ptrV D) undef) wx:=fun wx hx D hD=>by
  have hr1:Region.ready md ops (l true false)=[j']:=hr true false rfl;refine ⟨fun h0=>(by rw [hr1] at h0;cases h0),fun i hi=>?_⟩;rw [hr1] at hi
  rcases List.mem_singleton.1 hi with rfl
  refine wpOp_alloc hA' ?_;rw [hl',hfr'];have he:=extN wx (.cells z' ty');exact ⟨hS _ ((hw.trans hx).trans he),h _ (hx.trans he) _ _ (hD.ext he) (newV_alloc (hw.trans hx) ty' z') (Nat.ne_of_lt hD.lt)⟩
 have ft:∀ wx,Ext w wx->∀ D,NewV W0 wx ty' z' D->wpAnyH P md ops Q S (n+1) (l false true) (fr undef (ptrV D)) wx:=fun wx hx D hD=>by
  have hr1:Region.ready md ops (l false true)=[j]:=hr false true rfl;refine ⟨fun h0=>(by rw [hr1] at h0;cases h0),fun i hi=>?_⟩;rw [hr1] at hi
  rcases List.mem_singleton.1 hi with rfl
  refine wpOp_alloc hA ?_;rw [hl,hfr];have he:=extN wx (.cells z ty);exact ⟨hS _ ((hw.trans hx).trans he),h _ (hx.trans he) _ _ (newV_alloc (hw.trans hx) ty z) (hD.ext he) (Nat.ne_of_gt hD.lt)⟩
 intro wx hx;refine ⟨?_,tf wx hx,ft wx hx,h wx hx⟩;have hr1:Region.ready md ops (l false false)=[j,j']:=hr false false rfl;refine ⟨fun h0=>(by rw [hr1] at h0;cases h0),fun i hi=>?_⟩;rw [hr1] at hi
 rcases List.mem_cons.1 hi with rfl | hi
 ·refine wpOp_alloc hA ?_
  rw [hl,hfr];have he:=extN wx (.cells z ty);exact ⟨hS _ ((hw.trans hx).trans he),tf _ (hx.trans he) _ (newV_alloc (hw.trans hx) ty z)⟩
 ·rcases List.mem_singleton.1 hi with rfl
  refine wpOp_alloc hA' ?_;rw [hl',hfr'];have he:=extN wx (.cells z' ty');exact ⟨hS _ ((hw.trans hx).trans he),ft _ (hx.trans he) _ (newV_alloc (hw.trans hx) ty' z')⟩
end
variable {Qc:Nat->Prop}
open Go.RowKit
theorem setCells_row {b:Nat} {t:TypeId}:∀ (vs:List Value) (o:Nat) (cs:Array Value) (w:World),w.heap[b]?=some (.cells cs t (0,0))->o+vs.length<=cs.size ->
  ∃ cs',(w.setCells b o vs).heap[b]?=some (.cells cs' t (0,0))/\cs'.size=cs.size/\(∀ i,(i<o\/o+vs.length<=i)->cs'[i]?=cs[i]?)/\(∀ j,j<vs.length->cs'[o+j]?=vs[j]?)/\Only b w (w.setCells b o vs)
 | [],o,cs,w,h,_=>⟨cs,h,rfl,fun _ _=>rfl,fun j hj=>by simp at hj,Only.refl _ _⟩
 | v :: r,o,cs,w,h,hl=>by
  have h1:=heap_setCell_same w b o _ _ v h;obtain ⟨cs',g1,g2,g3,g4,g5⟩:=setCells_row r (o+1) (cs.setIfInBounds o v) (w.setCell ⟨b,o,none⟩ v) h1 (by simp at hl ⊢;omega);refine ⟨cs',g1,by rw [g2];simp,fun i hi=>?_,fun j hj=>?_,?_⟩
  ·rw [g3 i (by simp at hi ⊢;omega),Array.getElem?_setIfInBounds_ne (by simp at hi;omega)]
  ·cases j with
   | zero =>
    rw [g3 (o+0) (Or.inl (by omega)),Nat.add_zero,Array.getElem?_setIfInBounds_self_of_lt (by simp at hl;omega)]
    rfl
   | succ j =>
    have:=g4 j (by simpa using hj);rw [show o+(j+1)=o+1+j by omega,this]
    rfl
  ·have k:=(Only.refl b w).setCell o v
   exact ⟨g5.os.trans k.os,g5.tape.trans k.tape,g5.output.trans k.output,g5.size.trans k.size,fun i hi=>(g5.block i hi).trans (k.block i hi)⟩
structure RsAt (Qc:Nat->Prop) (w:World) (b n:Nat) (s:Nat->Nm) (P E:Nat):Prop where
 row:∃ cs,w.heap[b]?=some (.cells cs 48 (0,0))/\cs.size=n*17/\∀ x,x<n->∃ c:Array Value,(∀ j,j<17->cs[x*17+j]?=c[j]?)/\RmA Qc w c (s x) P E
theorem RsAt.lt {w:World} {b n:Nat} {s:Nat->Nm} {P E:Nat} (h:RsAt Qc w b n s P E):b<w.heap.size:=by
 obtain ⟨cs,h1,_⟩:=h.row;exact (gS.1 h1).1
theorem RsAt.ext {w w':World} {b n:Nat} {s:Nat->Nm} {P E:Nat} (h:RsAt Qc w b n s P E) (k:Ext w w'):RsAt Qc w' b n s P E:=by
 have hl:=h.lt;obtain ⟨cs,h1,h2,h3⟩:=h.row;refine ⟨cs,(k.block _ hl).trans h1,h2,fun x hx=>?_⟩;obtain ⟨c,g1,g2⟩:=h3 x hx;exact ⟨c,g1,g2.ext k⟩
theorem RsAt.no {w:World} {b n:Nat} {s:Nat->Nm} {P E:Nat} (h:RsAt Qc w b n s P E):NoI w b:=by
 obtain ⟨cs,h1,_⟩:=h.row;exact ⟨cs,_,_,h1,by decide⟩
theorem RmA.chz {w w':World} {cs:Array Value} {x:Nm} {P E g:Nat} (h:RmA Qc w cs x P E) (k:ChZ g w w') (hg:NoI w g):RmA Qc w' cs x P E:=⟨h.anti,h.low,h.abs,h.down,h.val.chz k hg⟩
theorem RsAt.chz {w w':World} {b n g:Nat} {s:Nat->Nm} {P E:Nat} (h:RsAt Qc w b n s P E) (k:ChZ g w w') (hg:NoI w g) (hne:b≠g):RsAt Qc w' b n s P E:=by
 obtain ⟨cs,h1,h2,h3⟩:=h.row;refine ⟨cs,k.row h1 hne,h2,fun x hx=>?_⟩;obtain ⟨c,g1,g2⟩:=h3 x hx;exact ⟨c,g1,g2.chz k hg⟩
theorem RsAt.congr {w:World} {b n:Nat} {s s':Nat->Nm} {P E:Nat} (h:RsAt Qc w b n s P E) (k:∀ x,x<n->s x=s' x):RsAt Qc w b n s' P E:=by
 obtain ⟨cs,h1,h2,h3⟩:=h.row;refine ⟨cs,h1,h2,fun x hx=>?_⟩;obtain ⟨c,g1,g2⟩:=h3 x hx;exact ⟨c,g1,k x hx ▸ g2⟩
theorem RsAt.get {w:World} {b n:Nat} {s:Nat->Nm} {P E:Nat} (h:RsAt Qc w b n s P E) {x:Nat} (hx:x<n):∃ c:Array Value,w.rangeAt b (x*17) c.toList/\RmA Qc w c (s x) P E/\w.there b (x*17) 17:=by
 obtain ⟨cs,h1,h2,h3⟩:=h.row;obtain ⟨c,g1,g2⟩:=h3 x hx;have hs:=g2.size
 have hb:x*17+17<=cs.size:=by
  rw [h2,<-Nat.succ_mul];exact Nat.mul_le_mul_right _ hx
 refine ⟨c,?_,g2,?_⟩
 ·intro j v hv
  rw [cell_of_row w b _ cs _ (0,0) h1]
  have hj:j<17:=by
   have:=(List.getElem?_eq_some_iff.1 hv).1
   simp at this;omega
  rw [g1 j hj]
  simpa using hv
 ·intro j hj
  refine ⟨?_,frozen_of_row w b _ _ _ h1⟩;rw [cell_of_row w b _ cs _ (0,0) h1,Array.getElem?_eq_getElem (by omega)]
  rfl
theorem RsAt.set {w:World} {b n:Nat} {s:Nat->Nm} {P E:Nat} (h:RsAt Qc w b n s P E) {x:Nat} (hx:x<n) {c:Array Value} {z:Nm} (hz:RmA Qc w c z P E) :
  RsAt Qc (w.setCells b (x*17) c.toList) b n (fun y=>if y=x then z else s y) P E/\ChZ b w (w.setCells b (x*17) c.toList):=by
 have hno:=h.no;obtain ⟨cs,h1,h2,h3⟩:=h.row;have hs:=hz.size
 have hb:x*17+17<=cs.size:=by
  rw [h2,<-Nat.succ_mul];exact Nat.mul_le_mul_right _ hx
 have hcl:c.toList.length=17:=by simpa using hs
 obtain ⟨cs',g1,g2,g3,g4,g5⟩:=setCells_row c.toList (x*17) cs w h1 (by rw [hcl];exact hb);have hch:=ChZ.of_only g5;refine ⟨⟨cs',g1,g2.trans h2,fun y hy=>?_⟩,hch⟩
 by_cases e:y=x
 ·subst e
  refine ⟨c,fun j hj=>?_,by rw [if_pos rfl];exact hz.chz hch hno⟩;rw [g4 j (by rw [hcl];exact hj)]
  simp
 ·obtain ⟨c',k1,k2⟩:=h3 y hy
  refine ⟨c',fun j hj=>?_,by rw [if_neg e];exact k2.chz hch hno⟩
  rw [g3 _ (by
   rw [hcl]
   by_cases hlt:y<x
   ·left
    have:=Nat.mul_le_mul_right 17 (show y+1<=x from hlt);rw [Nat.succ_mul] at this;omega
   ·right
    have:=Nat.mul_le_mul_right 17 (show x+1<=y by omega);rw [Nat.succ_mul] at this
    omega)]
  exact k1 j hj
theorem RsAt.new {w:World} {b n:Nat} (P E:Nat) (cs:Array Value) (h:w.heap[b]?=some (.cells cs 48 (0,0))) (hs:cs.size=n*17) (hz:∀ x,x<n->∀ j,j<17->cs[x*17+j]?=zeroR[j]?):RsAt Qc w b n (fun _=>nZ) P E :=
 ⟨cs,h,hs,fun x hx=>⟨zeroR,hz x hx,⟨anti_nZ,low_nZ,fun _=>Nat.pow_pos (by decide),Nat.zero_le _,zcs_zero (Qc:=Qc) w⟩⟩⟩
variable {Qc:Nat->Prop}
open Go.RowKit
theorem and1 (k:Int):bits .and .i64 k 1=k % 2:=by
 show IntKind.i64.wrap ((BitVec.ofInt 64 k &&& BitVec.ofInt 64 1).toNat:Int)=_
 have h1:=ofInt_toNat k
 have h2:(BitVec.ofInt 64 1).toNat=2 ^ 1-1:=by decide
 rw [BitVec.toNat_and,h2,Nat.and_two_pow_sub_one_eq_mod,IntKind.wrap_i64];omega
theorem shr1 (x q:Nat):bits .and .i64 ((x:Int) / 2 ^ q) 1=if x.testBit q then 1 else 0:=by
 rw [and1]
 have h1:(x:Int) / 2 ^ q=((x / 2 ^ q:Nat):Int):=by
  rw [Int.natCast_ediv,Int.natCast_pow];rfl
 have h2:x.testBit q=decide (x / 2 ^ q % 2=1):=by
  rw [Nat.testBit_eq_decide_div_mod_eq]
 rw [h1,h2]
 by_cases h:x / 2 ^ q % 2=1
 ·rw [decide_eq_true h,if_pos rfl];omega
 ·rw [decide_eq_false h];simp;omega
theorem bitOf_st (x:Nat) (q:Int) (w:World) (h0:0<=q) (h6:q<=60) :
  Calls Tryz.prog 66 #[.int .i64 (x:Int),.int .i64 q] w fun e w'=>e=.returned (.int .i64 (if bt x q then 1 else 0))/\w'=w:=by
 obtain ⟨m,rfl⟩:∃ m:Nat,q=(m:Int):=⟨q.toNat,by omega⟩
 have h1:(0:Int)<=(m:Int):=by omega
 obtain ⟨r,hr⟩:∃ r:Int,(if bt x (m:Int) then (1:Int) else 0)=r:=⟨_,rfl⟩
 have hb:bits .and .i64 ((x:Int) / 2 ^ m) 1=r:=by rw [<-hr,shr1];rfl
 have hm:min m 64=m:=by omega
 rw [hr];clear hr h0 h6
 go_enter Tryz.func66,Tryz.ntmps66
 go_wp2
 go_ret
 exact ⟨rfl,rfl⟩
theorem allOne_any (x:Nat) (ao:Option Addr) (n cp:Nat) (l:List Int) (w:World) (h:IntsAt w ao n l) (hn:n<=cp) (hcp:cp<=9223372036854775807) (h0:∀ c ∈ l,0<=c/\c<=60) :
  Calls Tryz.prog 65 #[.int .i64 (x:Int),.slice ao n cp] w fun e w'=>e=.returned (.bool (ons x l))/\w'=w:=by
 have hlen:=h.1;obtain ⟨B,hB⟩:∃ B,ons x l=B:=⟨_,rfl⟩;rw [hB];have HB:=Lh hB;have Hh:=Lh h;have H0:=Lh h0;have Hlen:=Lh hlen;clear h hB h0 hlen
 go_enter Tryz.func65,Tryz.ntmps65
 go_wp2_with fail
 go_loopg [5] n (fun kk s5 wr=>∃ i:Nat,s5=.int .i64 (i:Int)/\i<=n/\n-i=kk/\(∀ t,t<i->bt x (l.getD t 0)=true)/\wr=w)
 case atStart=>exact ⟨0,rfl,by omega,by omega,fun t ht=>by omega,rfl⟩
 case round =>
  obtain ⟨i,rfl,hi,hk,hal,rfl⟩:=hrel;have Hal:=Lh hal;have Hk:=Lh hk;clear hal hk
  by_cases hin:i=n
  ·have HBt:=Lh (show true=B by
    rw [<-HB.out];unfold ons
    symm
    rw [List.all_eq_true];intro c hc;obtain ⟨t,ht,e⟩:=List.getElem_of_mem hc;have h2:=Hal.out t (by have:=Hlen.out;omega);rw [List.getD_eq_getElem?_getD,List.getElem?_eq_getElem ht,e] at h2
    exact h2)
   have q1:¬ (i:Int)<(n:Int):=by omega
   clear hin hi
   go_wp2_with fail
   go_ret
   exact ⟨congrArg (fun b=>Ending.returned (Value.bool b)) HBt.out,rfl⟩
  have hlt:i<n:=by omega
  have q1:(i:Int)<(n:Int):=by omega
  have q0:(0:Int)<=(i:Int):=by omega
  have wk:IntKind.i64.wrap ((i:Int)+1)=((i+1:Nat):Int):=by rw [IntKind.wrap_i64];omega
  obtain ⟨b,o,rfl,hb,hc⟩:=Hh.out.2.resolve_left (by omega);have y0:=hc i hlt;obtain ⟨c,hcc⟩:∃ c,l.getD i 0=c:=⟨_,rfl⟩;rw [hcc] at y0
  have hc0:0<=c/\c<=60:=by
   have hlt':i<l.length:=by have:=Hlen.out;omega
   rw [<-hcc,List.getD_eq_getElem?_getD,List.getElem?_eq_getElem hlt'];exact H0.out _ (List.getElem_mem hlt')
  have Hbi:=Lh (bitOf_st x c wr hc0.1 hc0.2);have Hcc:=Lh hcc;have Hlt:=Lh hlt;clear hcc hc0 hb hc hin hi
  cases hbt:bt x c with
  | true =>
   rw [hbt] at Hbi;have Hbt:=Lh hbt;clear hbt
   go_wp2_with fail
   refine Hbi.out.mono ?_;rintro e w2 ⟨rfl,rfl⟩;clear y0 Hbi
   go_wp2_with fail
   go_roundg (n-(i+1))
   case measure=>have:=Hk.out;have:=Hlt.out;omega
   case rel=>exact ⟨i+1,rfl,Hlt.out,rfl,fun t ht=>by
    by_cases e:t=i
    ·rw [e,Hcc.out];exact Hbt.out
    ·exact Hal.out t (by omega),rfl⟩
  | false =>
   rw [hbt] at Hbi
   have HBf:=Lh (show false=B by
    rw [<-HB.out];unfold ons
    symm
    rw [List.all_eq_false]
    have hlt':i<l.length:=by have:=Hlen.out;have:=Hlt.out;omega
    refine ⟨l[i],List.getElem_mem hlt',?_⟩;have h2:=Hcc.out;rw [List.getD_eq_getElem?_getD,List.getElem?_eq_getElem hlt'] at h2;have h3:l[i]=c:=h2
    rw [h3,hbt];decide)
   clear hbt
   go_wp2_with fail
   refine Hbi.out.mono ?_;rintro e w2 ⟨rfl,rfl⟩;clear y0 Hbi
   go_wp2_with fail
   go_ret
   exact ⟨congrArg (fun b=>Ending.returned (Value.bool b)) HBf.out,rfl⟩
theorem R_info:(Tryz.prog.info? 48).map (fun i=>(i.zero,i.size,i.bytes))=some (some (.agg zeroR),17,264):=by kernel_rfl
theorem wpList_make_R (w:World) {ops:Array Oper} {rest:List Oper} {o:Oper} {a:Act} {Q:Exit->Act->World->Prop}
  (hg:o.guard=none) (l c:Operand) (hop:o.op=Op.makeSlice 40 l c) (kl kc:IntKind) (L C:Int) (n:Nat) (hl:a.eval l=.int kl L) (hc:a.eval c=.int kc C) (hL:L=(n:Int)) (hC:C=(n:Int)) (b2:n<=1048576)
  (hK:∀ w',(∀ P E,RsAt Qc w' w.heap.size n (fun _=>nZ) P E)->Ext w w'->w.heap.size<w'.heap.size->wpList Tryz.prog ops Q rest (a.put o.dst (.slice (some ⟨w.heap.size,0,none⟩) n n)) w') :
  wpList Tryz.prog ops Q (o :: rest) a w:=by
 obtain ⟨i0,hi,hz0,hz1,hz2⟩:=info_parts R_info;refine wpList_make_full w hg l c 40 hop w.heap.size 48 i0 (.agg zeroR) 17 Tryz.underlying40 hi hz0 hz1 kl kc L C n hl hc hL hC (by rw [hz2];omega) (by unfold maxLen;omega) (Nat.le_refl _) ?_;intro w' hown hgrow
 have key:∃ cs,w'.heap[w.heap.size]?=some (.cells cs 48 (0,0))/\cs=madeCells zeroR (n*17):=by
  obtain ⟨_,h | ⟨g,cap,cur,hv,_,hh,_,_,hsz,ht⟩⟩:=hown
  ·simp at h
  ·simp only [Value.slice.injEq,Option.some.injEq,Addr.mk.injEq,and_true,true_and] at hv
   obtain ⟨hg,rfl⟩:=hv;subst hg;refine ⟨cur,hh,?_⟩
   apply Array.toList_inj.1
   have e1:cur.toList.take (n*17)=cur.toList:=List.take_of_length_le (by rw [Array.length_toList,hsz];exact Nat.le_refl _);rw [e1] at ht;exact ht
 obtain ⟨cs,h1,rfl⟩:=key;refine hK w' (fun P E=>RsAt.new P E _ h1 (size_madeCells _ _) fun x hx j hj=>?_) ((Below.refl _ _).grown hgrow (Nat.le_refl _) (fun k h=>by cases h)) (gS.1 h1).1
 have hlt:x*17+j<n*17:=by
  have:=Nat.mul_le_mul_right 17 (show x+1<=n from hx);rw [Nat.succ_mul] at this;omega
 have hm:(x*17+j) % 17=j:=by rw [Nat.add_comm,Nat.add_mul_mod_self_right,Nat.mod_eq_of_lt hj]
 unfold madeCells;rw [Array.getElem?_map,Array.getElem?_range,if_pos hlt]
 show some (zeroR[(x*17+j) % 17]!)=zeroR[j]?
 rw [hm]
 have e:j=0\/j=1\/j=2\/j=3\/j=4\/j=5\/j=6\/j=7\/j=8\/j=9\/j=10\/j=11\/j=12\/j=13\/j=14\/j=15\/j=16:=by omega
 rcases e with rfl | rfl | rfl | rfl | rfl | rfl | rfl | rfl | rfl | rfl | rfl | rfl | rfl | rfl | rfl | rfl | rfl<;>rfl
theorem shl1 {q:Nat} (h:q<=40):wrap64 (2 ^ min q 64)=((2 ^ q:Nat):Int):=by
 have h1:2 ^ q<=2 ^ 40:=Nat.pow_le_pow_right (by decide) h;rw [show min q 64=q by omega]
 have h2:((2:Int) ^ q)=((2 ^ q:Nat):Int):=by rw [Int.natCast_pow];rfl
 rw [h2]
 have h3:(2 ^ 40:Nat)=1099511627776:=by decide
 obtain ⟨m,hm⟩:∃ m:Nat,2 ^ q=m:=⟨_,rfl⟩;rw [hm] at h1 ⊢;rw [h3] at h1;clear hm h2;unfold wrap64;omega
def bas (x:Nat):Nat->Nm:=fun y=>if y=x then nOne else nZ
theorem amp_one:Amp 0 nOne:=⟨Or.inl rfl,anti_one,Nat.le_refl _,fun k=>by
 show (oneR k).natAbs*1<2
 unfold oneR
 split
 ·decide
 ·split<;>decide⟩
theorem bas_amp (x y:Nat):Amp 0 (bas x y):=by
 unfold bas
 split
 ·exact amp_one
 ·exact Amp.zero 0
theorem Basis_any (q x:Nat) (w:World) (hq:q<=12) (hx:x<2 ^ q) (P E:Nat) (hP:1<=P) (hL:LimQ Qc w) :
  Calls Tryz.prog 31 #[.int .i64 (q:Int),.int .i64 (x:Int)] w fun e w'=>∃ b,e=.returned (.slice (some ⟨b,0,none⟩) (2 ^ q) (2 ^ q))/\RsAt Qc w' b (2 ^ q) (bas x) P E/\w.heap.size<=b/\Ext w w':=by
 obtain ⟨n,hn⟩:∃ n,2 ^ q=n:=⟨_,rfl⟩
 have hn2:n<=4096:=by rw [<-hn];exact Nat.le_trans (Nat.pow_le_pow_right (by decide) hq) (by decide)
 have hs:=shl1 (q:=q) (by omega);rw [hn] at hs hx ⊢
 have q0:(0:Int)<=(q:Int):=by omega
 have q1:(0:Int)<=(x:Int):=by omega
 have q2:(x:Int)<(n:Int):=by omega
 have HLm:=Lh hL;clear hL;have HP:=Lh hP;have Hx:=Lh hx;clear hn hq hP hx
 go_enter Tryz.func31,Tryz.ntmps31
 go_wp2_with (refine wpList_make_R (Qc:=Qc) w rfl _ _ rfl .i64 .i64 (wrap64 (2 ^ min q 64)) (wrap64 (2 ^ min q 64)) n rfl rfl hs hs (by omega) ?_;intro w1 hR hE hl)
 refine (ZOf_any 1 (by decide) (by decide) w1 (HLm.out.grow hE.size)).mono ?_;rintro e w2 ⟨b1,a1,n1,c1,rfl,hI,_,hE2⟩
 go_wp2_with fail
 refine (QOf_nm b1 a1 n1 c1 1 P E w2 hI (Nat.lt_of_lt_of_le (by decide) (Nat.pow_le_pow_right (by decide) HP.out):(1:Int).natAbs<2 ^ P)).mono ?_;rintro e w3 ⟨cr,rfl,hcr,hE3⟩;have hR3:=((hR P E).ext hE2).ext hE3;obtain ⟨hS1,hS2⟩:=hR3.set Hx.out hcr
 have ht:w3.there w.heap.size (x*17) cr.size:=by rw [hcr.size];exact (hR3.get Hx.out).choose_spec.2.2
 have hinf:=hcr.info;have hone:=hcr.val.one;have Hend:=Lh (show RsAt Qc (w3.setCells w.heap.size (x*17) cr.toList) w.heap.size n (bas x) P E/\w.heap.size<=w.heap.size/\Ext w (w3.setCells w.heap.size (x*17) cr.toList) from ⟨hS1.congr (fun y _=>by unfold bas;rw [nOf_one]),Nat.le_refl _,hS2.ext ((hE.trans hE2).trans hE3) (Nat.le_refl _)⟩);clear hS1 hS2 hR3 hR hE hE2 hE3 hcr hI
 go_wp2_with (refine wpList_store_mid rfl 48 _ _ rfl w.heap.size (x*17) cr rfl rfl ht hinf hone ?_)
 go_ret
 exact ⟨_,rfl,Hend.out⟩
theorem add_z (x:Nm):EqN (nAdd x nZ) x:=fun k=>by simp only [nAdd,nZ];grind
theorem z_add (x:Nm):EqN (nAdd nZ x) x:=fun k=>by simp only [nAdd,nZ];grind
theorem tr_z (m:Int):nTr m nZ=nZ:=rfl
theorem neg_z:nNeg nZ=nZ:=by unfold nNeg nZ;congr 1
noncomputable def gp (o:Gop) (s:Nat->Nm) (j y:Nat):Nm :=
 if ons y o.ctl then
  if o.kind=1 then (if y<j then nTr o.k (s y) else nZ)
  else if o.kind=4 then (if y<j then (if bt y o.q then nTr o.k (s y) else s y) else nZ)
  else if o.kind=2 then (if fl y o.q<j then s (fl y o.q) else nZ)
  else lw (nHf (nAdd (if fl y o.q<j then s (fl y o.q) else nZ) (if y<j then (if bt y o.q then nNeg (s y) else s y) else nZ)))
 else if y<j then s y else nZ
theorem hf_z:EqN (nHf (nAdd nZ nZ)) nZ:=fun k=>by simp only [nHf,nAdd,nZ,addR,trR];simp
theorem lw_z {x:Nm} (h:EqN x nZ):lw x=nZ:=(lw_congr h).trans (lw_self low_nZ)
theorem gp_zero (o:Gop) (s:Nat->Nm) (y:Nat):gp o s 0 y=nZ:=by
 unfold gp
 split
 ·split
  ·simp
  ·split
   ·simp
   ·split
    ·simp
    ·simp only [Nat.not_lt_zero,if_false];exact lw_z hf_z
 ·simp
theorem gp_end {o:Gop} {s:Nat->Nm} {n y:Nat} (hy:y<2 ^ n) (hq:o.q.toNat<n):gp o s (2 ^ n) y=gt o s y:=by
 unfold gp gt;have h:=fl_lt hy hq;simp only [hy,h,if_true]
theorem gp_amp {N:Nat} {o:Gop} {s:Nat->Nm} (h:∀ x,Amp N (s x)) (j y:Nat):Amp (N+1) (gp o s j y):=by
 have hz:=Amp.zero (N+1);have h0:=Amp.zero N;unfold gp
 split
 ·split
  ·split
   ·exact ((h y).tr _).le (Nat.le_succ _)
   ·exact hz
  ·split
   ·split
    ·split
     ·exact ((h y).tr _).le (Nat.le_succ _)
     ·exact (h y).le (Nat.le_succ _)
    ·exact hz
   ·split
    ·split
     ·exact (h _).le (Nat.le_succ _)
     ·exact hz
    ·refine Amp.hf ?_ ?_
     ·split
      ·exact h _
      ·exact h0
     ·split
      ·split
       ·exact (h y).neg
       ·exact h y
      ·exact h0
 ·split
  ·exact (h y).le (Nat.le_succ _)
  ·exact hz
theorem gp_far {o:Gop} {s:Nat->Nm} {j y:Nat} (h1:y≠j) (h2:fl y o.q≠j):gp o s (j+1) y=gp o s j y:=by
 have e1:(y<j+1)=(y<j):=propext (by omega);have e2:(fl y o.q<j+1)=(fl y o.q<j):=propext (by omega);unfold gp;simp only [e1,e2]
theorem gp_nought {o:Gop} {s:Nat->Nm} {j:Nat} (h:s j=nZ) (y:Nat):gp o s (j+1) y=gp o s j y:=by
 by_cases h1:y=j
 ·subst h1
  by_cases h2:fl y o.q=y
  ·unfold gp;simp [h2,h,tr_z,neg_z]
  ·have e2:(fl y o.q<y+1)=(fl y o.q<y):=propext (by omega)
   unfold gp;simp [e2,h,tr_z,neg_z]
 ·have e1:(y<j+1)=(y<j):=propext (by omega)
  by_cases h2:fl y o.q=j
  ·unfold gp;simp [e1,h2,h]
  ·exact gp_far h1 h2
theorem gp_plain {o:Gop} {s:Nat->Nm} {j:Nat} (h:ons j o.ctl=false) (hf:ons (fl j o.q) o.ctl=false) (y:Nat):gp o s (j+1) y=if y=j then s j else gp o s j y:=by
 by_cases h1:y=j
 ·subst h1
  rw [if_pos rfl];unfold gp;simp [h]
 ·rw [if_neg h1]
  have e1:(y<j+1)=(y<j):=propext (by omega)
  by_cases h2:fl y o.q=j
  ·have hy:ons y o.ctl=false:=by
    have:y=fl j o.q:=by rw [<-h2,fl_fl]
    rw [this];exact hf
   unfold gp;simp [e1,hy]
  ·exact gp_far h1 h2
theorem gp_self_plain {o:Gop} {s:Nat->Nm} {j:Nat} (h:ons j o.ctl=false):gp o s j j=nZ:=by unfold gp;simp [h]
theorem gp_turn {o:Gop} {s:Nat->Nm} {j:Nat} (h:ons j o.ctl=true) (hk:o.kind=1\/(o.kind=4/\bt j o.q=true)) (y:Nat):gp o s (j+1) y=if y=j then nTr o.k (s j) else gp o s j y:=by
 have hk':o.kind=1\/o.kind=4:=hk.imp id And.left
 by_cases h1:y=j
 ·subst h1
  rw [if_pos rfl];unfold gp
  rcases hk with hk | ⟨hk,hb⟩
  ·simp [h,hk]
  ·simp [h,hk,hb]
 ·rw [if_neg h1]
  have e1:(y<j+1)=(y<j):=propext (by omega);unfold gp
  rcases hk' with hk | hk
  ·simp [e1,hk]
  ·simp [e1,hk]
theorem gp_keep {o:Gop} {s:Nat->Nm} {j:Nat} (h:ons j o.ctl=true) (hk:o.kind=4) (hb:bt j o.q=false) (y:Nat):gp o s (j+1) y=if y=j then s j else gp o s j y:=by
 by_cases h1:y=j
 ·subst h1
  rw [if_pos rfl];unfold gp
  simp [h,hk,hb]
 ·rw [if_neg h1]
  have e1:(y<j+1)=(y<j):=propext (by omega);unfold gp
  simp [e1,hk]
theorem gp_swap {o:Gop} {s:Nat->Nm} {j:Nat} (hf:ons (fl j o.q) o.ctl=true) (hj:ons j o.ctl=true) (hk:o.kind=2) (y:Nat):gp o s (j+1) y=if y=fl j o.q then s j else gp o s j y:=by
 by_cases h1:y=fl j o.q
 ·subst h1
  rw [if_pos rfl];unfold gp
  simp [hf,hk,fl_fl]
 ·rw [if_neg h1]
  have h2:fl y o.q≠j:=fun e=>h1 (by rw [<-e,fl_fl])
  by_cases h3:y=j
  ·subst h3
   have e2:(fl y o.q<y+1)=(fl y o.q<y):=propext (by omega);unfold gp
   simp [hj,hk,e2]
  ·exact gp_far h3 h2
theorem gp_mix {o:Gop} {s:Nat->Nm} {j:Nat} (hf:ons (fl j o.q) o.ctl=true) (hj:ons j o.ctl=true) (hk:o.kind≠1/\o.kind≠4/\o.kind≠2) {h z1 z2:Nm} (eh:EqN h (nHf (s j))) (l1:Low z1) (l2:Low z2)
  (e1:EqN z1 (nAdd (gp o s j (fl j o.q)) h)) (e2:EqN z2 (nAdd (gp o s j j) (if bt j o.q then nNeg h else h))) (y:Nat):gp o s (j+1) y=if y=j then z2 else if y=fl j o.q then z1 else gp o s j y:=by
 have hne:fl j o.q≠j:=fun e=>by
  have:=bt_fl j o.q;rw [e] at this
  cases hb:bt j o.q<;>simp [hb] at this
 by_cases h1:y=j
 ·subst h1
  rw [if_pos rfl];have e3:(fl y o.q<y+1)=(fl y o.q<y):=propext (by omega)
  have e4:gp o s y y=lw (nHf (nAdd (if fl y o.q<y then s (fl y o.q) else nZ) nZ)):=by unfold gp;simp [hj,hk]
  have e6:gp o s (y+1) y=lw (nHf (nAdd (if fl y o.q<y then s (fl y o.q) else nZ) (if bt y o.q then nNeg (s y) else s y))):=by
   unfold gp;simp only [hj,hk,e3,if_true,if_false,Nat.lt_succ_self]
  rw [e6];refine (lw_one l2 (e2.trans ?_)).symm;rw [e4]
  have e5:EqN (if bt y o.q then nNeg h else h) (nHf (if bt y o.q then nNeg (s y) else s y)):=by
   split
   ·rw [hf_neg];exact EqN.neg eh
   ·exact eh
  exact (EqN.add (lw_eq _) e5).trans ((hf_add _ _).trans (EqN.hf (EqN.add (add_z _) (EqN.refl _))))
 ·rw [if_neg h1]
  by_cases h2:y=fl j o.q
  ·subst h2
   rw [if_pos rfl];have e3:(fl j o.q<j+1)=(fl j o.q<j):=propext (by omega)
   have e4:gp o s j (fl j o.q)=lw (nHf (nAdd nZ (if fl j o.q<j then (if bt (fl j o.q) o.q then nNeg (s (fl j o.q)) else s (fl j o.q)) else nZ))):=by unfold gp;simp [hf,hk,fl_fl]
   have e5:gp o s (j+1) (fl j o.q)=lw (nHf (nAdd (s j) (if fl j o.q<j then (if bt (fl j o.q) o.q then nNeg (s (fl j o.q)) else s (fl j o.q)) else nZ))):=by
    unfold gp;simp only [hf,hk,fl_fl,if_true,if_false,Nat.lt_succ_self,e3]
   rw [e5];refine (lw_one l1 (e1.trans ?_)).symm;rw [e4];refine (EqN.add (lw_eq _) eh).trans ((hf_add _ _).trans (EqN.hf ?_));refine (EqN.add (z_add _) (EqN.refl _)).trans ?_;exact EqN.of_eq (nAdd_comm _ _)
  ·rw [if_neg h2]
   exact gp_far h1 (fun e=>h2 (by rw [<-e,fl_fl]))
theorem mem_take_iff (l:List Int) (x:Int) (i:Nat):x ∈ l.take i↔∃ t,t<i/\t<l.length/\l.getD t 0=x:=by
 constructor
 ·intro h
  obtain ⟨t,ht,e⟩:=List.mem_iff_getElem.1 h;rw [List.length_take] at ht;refine ⟨t,by omega,by omega,?_⟩;rw [List.getD_eq_getElem?_getD,List.getElem?_eq_getElem (by omega)];rw [List.getElem_take] at e;exact e
 ·rintro ⟨t,h1,h2,e⟩
  rw [List.getD_eq_getElem?_getD,List.getElem?_eq_getElem h2] at e;exact List.mem_iff_getElem.2 ⟨t,by rw [List.length_take];omega,by rw [List.getElem_take];exact e⟩
theorem Index_any (ao:Option Addr) (n c:Nat) (l:List Int) (x:Int) (w:World) (h:IntsAt w ao n l) (hnc:n<=c) (hc:c<=9223372036854775807) :
  Calls Tryz.prog 114 #[.slice ao n c,.int .i64 x] w fun e w'=>(∃ k:Int,e=.returned (.int .i64 k)/\(0<=k↔x ∈ l))/\w'=w:=by
 have Hl:=Lh h.1
 have hab:n=0\/∃ b o,ao=some ⟨b,o,none⟩/\∀ t,t<n->w.cell? ⟨b,o+t,none⟩=some (.int .i64 (l.getD t 0)):=by
  rcases h.2 with h0 | ⟨b,o,e,_,hc⟩
  ·exact Or.inl h0
  ·exact Or.inr ⟨b,o,e,hc⟩
 clear h
 go_enter Tryz.func114,Tryz.ntmps114
 go_wp2_with fail
 go_loopg [8] n (fun k s8 wr=>wr=w/\∃ i:Nat,s8=.int .i64 (i:Int)/\i<=n/\n-i=k/\¬ x ∈ l.take i)
 case atStart=>exact ⟨rfl,0,rfl,by omega,by omega,by simp⟩
 case round =>
  obtain ⟨rfl,i,rfl,hi,hk,hno⟩:=hrel;have Hno:=Lh hno;clear hno
  by_cases hin:i=n
  ·have h1:¬ (i:Int)<(n:Int):=by omega
   go_wp2_with fail
   go_ret
   refine ⟨⟨-1,rfl,⟨fun h=>absurd h (by decide),fun h=>?_⟩⟩,rfl⟩;have:=Hno.out;rw [List.take_of_length_le (by rw [Hl.out];omega)] at this;exact absurd h this
  ·have h1:(i:Int)<(n:Int):=by omega
   have h0:(0:Int)<=(i:Int):=by omega
   rcases hab with h | ⟨b,o,rfl,hcell⟩
   ·omega
   have hci:=hcell i (by omega);obtain ⟨y,hy⟩:∃ y,l.getD i 0=y:=⟨_,rfl⟩;rw [hy] at hci;have Hy:=Lh hy;have Hcell:=Lh hcell;clear hcell hy
   by_cases hxy:x=y
   ·have hb:(x == y)=true:=by simp [hxy]
    have Hxy:=Lh hxy;clear hxy
    go_wp2_with fail
    go_ret
    exact ⟨⟨_,rfl,⟨fun _=>by
     rw [Hxy.out,<-Hy.out,List.getD_eq_getElem?_getD,List.getElem?_eq_getElem (by rw [Hl.out];omega)]
     exact List.getElem_mem _,fun _=>h0⟩⟩,rfl⟩
   ·have hb:(x == y)=false:=by simp [hxy]
    have Hxy:=Lh hxy;clear hxy
    go_wp2_with fail
    go_roundg (n-(i+1))
    case measure=>omega
    case rel=>exact ⟨rfl,i+1,by go_num,by omega,rfl,fun h=>by
     obtain ⟨t,h1,h2,h3⟩:=(mem_take_iff l x (i+1)).1 h
     by_cases e:t=i
     ·subst e;exact Hxy.out (by rw [<-Hy.out,h3])
     ·exact Hno.out ((mem_take_iff l x i).2 ⟨t,by omega,h2,h3⟩)⟩
theorem Contains_any (ao:Option Addr) (n c:Nat) (l:List Int) (x:Int) (w:World) (h:IntsAt w ao n l) (hnc:n<=c) (hc:c<=9223372036854775807) :
  Calls Tryz.prog 80 #[.slice ao n c,.int .i64 x] w fun e w'=>e=.returned (.bool (decide (x ∈ l)))/\w'=w:=by
 have Hi:=Lh (Index_any ao n c l x w h hnc hc);clear h
 go_enter Tryz.func80,Tryz.ntmps80
 go_wp2_with fail
 refine Hi.out.mono ?_;rintro e w1 ⟨⟨k,rfl,hk⟩,rfl⟩
 have hb:decide (0<=k)=decide (x ∈ l):=by rw [decide_eq_decide];exact hk
 have Hb:=Lh hb;clear hk hb
 go_wp2_with fail
 go_ret
 exact ⟨congrArg (fun b=>Ending.returned (Value.bool b)) Hb.out,rfl⟩
theorem member_any (ao:Option Addr) (n c:Nat) (l:List Int) (x:Int) (w:World) (h:IntsAt w ao n l) (hnc:n<=c) (hc:c<=9223372036854775807) :
  Calls Tryz.prog 99 #[.slice ao n c,.int .i64 x] w fun e w'=>e=.returned (.bool (decide (x ∈ l)))/\w'=w:=by
 have Hl:=Lh h.1
 have hab:n=0\/∃ b o,ao=some ⟨b,o,none⟩/\∀ t,t<n->w.cell? ⟨b,o+t,none⟩=some (.int .i64 (l.getD t 0)):=by
  rcases h.2 with h0 | ⟨b,o,e,_,hc⟩
  ·exact Or.inl h0
  ·exact Or.inr ⟨b,o,e,hc⟩
 obtain ⟨r,hr⟩:∃ r,decide (x ∈ l)=r:=⟨_,rfl⟩;rw [hr];have Hr:=Lh hr;clear h hr
 go_enter Tryz.func99,Tryz.ntmps99
 go_wp2_with fail
 go_loopg [5] n (fun k s5 wr=>wr=w/\∃ i:Nat,s5=.int .i64 (i:Int)/\i<=n/\n-i=k/\¬ x ∈ l.take i)
 case atStart=>exact ⟨rfl,0,rfl,by omega,by omega,by simp⟩
 case round =>
  obtain ⟨rfl,i,rfl,hi,hk,hno⟩:=hrel;have Hno:=Lh hno;clear hno
  by_cases hin:i=n
  ·have h1:¬ (i:Int)<(n:Int):=by omega
   have hf:r=false:=by
    rw [<-Hr.out,decide_eq_false_iff_not];have:=Hno.out;rw [List.take_of_length_le (by rw [Hl.out];omega)] at this;exact this
   have HF:=Lh hf;clear hf Hr
   go_wp2_with fail
   go_ret
   exact ⟨congrArg (fun b=>Ending.returned (Value.bool b)) HF.out.symm,rfl⟩
  ·have h1:(i:Int)<(n:Int):=by omega
   have h0:(0:Int)<=(i:Int):=by omega
   rcases hab with h | ⟨b,o,rfl,hcell⟩
   ·omega
   have hci:=hcell i (by omega);obtain ⟨y,hy⟩:∃ y,l.getD i 0=y:=⟨_,rfl⟩;rw [hy] at hci;have Hy:=Lh hy;have Hcell:=Lh hcell;clear hcell hy
   by_cases hxy:x=y
   ·have hb:(y == x)=true:=by simp [hxy]
    have ht:r=true:=by
     rw [<-Hr.out,decide_eq_true_iff,hxy,<-Hy.out,List.getD_eq_getElem?_getD,List.getElem?_eq_getElem (by rw [Hl.out];omega)];exact List.getElem_mem _
    have HF:=Lh ht;clear hxy ht Hr
    go_wp2_with fail
    go_ret
    exact ⟨congrArg (fun b=>Ending.returned (Value.bool b)) HF.out.symm,rfl⟩
   ·have hb:(y == x)=false:=by simp [Ne.symm hxy]
    have Hxy:=Lh hxy;clear hxy
    go_wp2_with fail
    go_roundg (n-(i+1))
    case measure=>omega
    case rel=>exact ⟨rfl,i+1,by go_num,by omega,rfl,fun h=>by
     obtain ⟨t,h1,h2,h3⟩:=(mem_take_iff l x (i+1)).1 h
     by_cases e:t=i
     ·subst e;exact Hxy.out (by rw [<-Hy.out,h3])
     ·exact Hno.out ((mem_take_iff l x i).2 ⟨t,by omega,h2,h3⟩)⟩
theorem areConditions_any (ao:Option Addr) (n c:Nat) (l:List Int) (bits:Int) (w:World) (h:IntsAt w ao n l) (_hnc:n<=c) (_hc:c<=9223372036854775807) (hb0:0<=bits) (hb1:bits<=12) :
  Calls Tryz.prog 113 #[.slice ao n c,.int .i64 bits] w fun e w'=>e=.returned (.bool (cndOk bits l))/\w'=w:=by
 have Hl:=Lh h.1
 have hab:n=0\/∃ b o,ao=some ⟨b,o,none⟩/\∀ t,t<n->w.cell? ⟨b,o+t,none⟩=some (.int .i64 (l.getD t 0)):=by
  rcases h.2 with h0 | ⟨b,o,e,_,hc⟩
  ·exact Or.inl h0
  ·exact Or.inr ⟨b,o,e,hc⟩
 obtain ⟨r,hr⟩:∃ r,cndOk bits l=r:=⟨_,rfl⟩;rw [hr];have Hr:=Lh hr;clear h hr
 by_cases hn:24<n
 ·have h1:(24:Int)<(n:Int):=by omega
  have hf:r=false:=by rw [<-Hr.out];unfold cndOk;rw [Hl.out];simp;omega
  have HF:=Lh hf;clear hf Hr hn
  go_enter Tryz.func113,Tryz.ntmps113
  go_wp2_with fail
  go_ret
  exact ⟨congrArg (fun b=>Ending.returned (Value.bool b)) HF.out.symm,rfl⟩
 ·have h1:¬ (24:Int)<(n:Int):=by omega
  have hall:r=l.all (termOk bits):=by
   rw [<-Hr.out];unfold cndOk
   have:decide (l.length<=24)=true:=by rw [Hl.out];simp;omega
   rw [this,Bool.true_and]
  have Hall:=Lh hall
  have hwb:IntKind.i64.wrap (-bits)=-bits:=by rw [IntKind.wrap_i64];omega
  clear hall Hr hn
  go_enter Tryz.func113,Tryz.ntmps113
  go_wp2_with fail
  go_loopg [12] n (fun k s12 wr=>wr=w/\∃ i:Nat,s12=.int .i64 (i:Int)/\i<=n/\n-i=k/\r=(l.drop i).all (termOk bits))
  case atStart=>exact ⟨rfl,0,rfl,by omega,by omega,Hall.out⟩
  case round =>
   obtain ⟨rfl,i,rfl,hi,hk,hr⟩:=hrel
   by_cases hin:i=n
   ·have h2:¬ (i:Int)<(n:Int):=by omega
    have ht:r=true:=by rw [hr,List.drop_eq_nil_of_le (by rw [Hl.out];omega)];rfl
    have HF:=Lh ht;clear hr ht Hall
    go_wp2_with fail
    go_ret
    exact ⟨congrArg (fun b=>Ending.returned (Value.bool b)) HF.out.symm,rfl⟩
   ·have h2:(i:Int)<(n:Int):=by omega
    have h0:(0:Int)<=(i:Int):=by omega
    rcases hab with h | ⟨b,o,rfl,hcell⟩
    ·omega
    have hci:=hcell i (by omega);obtain ⟨y,hy⟩:∃ y,l.getD i 0=y:=⟨_,rfl⟩;rw [hy] at hci;have hst:=all_step (termOk bits) l i (by rw [Hl.out];omega);rw [hy,<-hr] at hst;have Hst:=Lh hst;have Hcell:=Lh hcell;clear hcell hy hr hst
    by_cases y0:y=0
    ·have ht:termOk bits y=false:=by simp [termOk,y0]
     have hf:r=false:=by rw [Hst.out,ht];rfl
     have HF:=Lh hf;subst y0;clear hf ht Hst Hall
     go_wp2_with fail
     go_ret
     exact ⟨congrArg (fun b=>Ending.returned (Value.bool b)) HF.out.symm,rfl⟩
    ·have e0:(y == 0)=false:=by simp [y0]
     by_cases y1:y < -bits
     ·have ht:termOk bits y=false:=by unfold termOk;simp;omega
      have hf:r=false:=by rw [Hst.out,ht];rfl
      have HF:=Lh hf;clear hf ht Hst Hall
      go_wp2_with fail
      go_ret
      exact ⟨congrArg (fun b=>Ending.returned (Value.bool b)) HF.out.symm,rfl⟩
     ·have e1:decide (y < -bits)=false:=by simp;omega
      by_cases y2:bits<y
      ·have ht:termOk bits y=false:=by unfold termOk;simp;omega
       have hf:r=false:=by rw [Hst.out,ht];rfl
       have HF:=Lh hf;clear hf ht Hst Hall
       go_wp2_with fail
       go_ret
       exact ⟨congrArg (fun b=>Ending.returned (Value.bool b)) HF.out.symm,rfl⟩
      ·have e2:decide (bits<y)=false:=by simp;omega
       have ht:termOk bits y=true:=by unfold termOk;simp;omega
       have hst':r=(l.drop (i+1)).all (termOk bits):=by rw [Hst.out,ht];rfl
       have Hst':=Lh hst';clear ht hst' Hst y1 y2
       go_wp2_with fail
       go_roundg (n-(i+1))
       case measure=>omega
       case rel=>exact ⟨rfl,i+1,by go_num,by omega,rfl,Hst'.out⟩
structure OpL (w:World) (o:Gop) (a1:Option Addr) (n1 c1:Nat) (a2:Option Addr) (n2 c2:Nat):Prop where
 i1:IntsAt w a1 n1 o.ctl
 h1:n1<=c1
 m1:c1<=9223372036854775807
 i2:IntsAt w a2 n2 o.cnd
 h2:n2<=c2
 m2:c2<=9223372036854775807
theorem OpL.ext {w w':World} {o:Gop} {a1:Option Addr} {n1 c1:Nat} {a2:Option Addr} {n2 c2:Nat} (h:OpL w o a1 n1 c1 a2 n2 c2) (k:Ext w w'):OpL w' o a1 n1 c1 a2 n2 c2:=⟨h.i1.ext k,h.h1,h.m1,h.i2.ext k,h.h2,h.m2⟩
structure OpBx (W:World) (g:Nat) (k0 k1:Int) (a1:Option Addr) (n1 c1:Nat) (k3 k4:Int) (a2:Option Addr) (n2 c2:Nat):Prop where
 row:W.heap[g]?=some (.cells #[.int .i64 k0,.int .i64 k1,.slice a1 n1 c1,.int .i64 k3,.int .i64 k4,.slice a2 n2 c2] 60 (0,0))
section
variable {W W':World} {g:Nat} {k0 k1:Int} {a1:Option Addr} {n1 c1:Nat} {k3 k4:Int} {a2:Option Addr} {n2 c2:Nat}
theorem OpBx.lt (h:OpBx W g k0 k1 a1 n1 c1 k3 k4 a2 n2 c2):g<W.heap.size:=(gS.1 h.row).1
theorem OpBx.ext (h:OpBx W g k0 k1 a1 n1 c1 k3 k4 a2 n2 c2) (k:Ext W W'):OpBx W' g k0 k1 a1 n1 c1 k3 k4 a2 n2 c2:=⟨(k.block _ h.lt).trans h.row⟩
theorem OpBx.x0 (h:OpBx W g k0 k1 a1 n1 c1 k3 k4 a2 n2 c2):W.cell? ⟨g,0,none⟩=some (.int .i64 k0):=by rw [cell_of_row W g 0 _ _ (0,0) h.row];rfl
theorem OpBx.x1 (h:OpBx W g k0 k1 a1 n1 c1 k3 k4 a2 n2 c2):W.cell? ⟨g,1,none⟩=some (.int .i64 k1):=by rw [cell_of_row W g 1 _ _ (0,0) h.row];rfl
theorem OpBx.x2 (h:OpBx W g k0 k1 a1 n1 c1 k3 k4 a2 n2 c2):W.cell? ⟨g,2,none⟩=some (.slice a1 n1 c1):=by rw [cell_of_row W g 2 _ _ (0,0) h.row];rfl
theorem OpBx.x3 (h:OpBx W g k0 k1 a1 n1 c1 k3 k4 a2 n2 c2):W.cell? ⟨g,3,none⟩=some (.int .i64 k3):=by rw [cell_of_row W g 3 _ _ (0,0) h.row];rfl
theorem OpBx.x4 (h:OpBx W g k0 k1 a1 n1 c1 k3 k4 a2 n2 c2):W.cell? ⟨g,4,none⟩=some (.int .i64 k4):=by rw [cell_of_row W g 4 _ _ (0,0) h.row];rfl
theorem OpBx.x5 (h:OpBx W g k0 k1 a1 n1 c1 k3 k4 a2 n2 c2):W.cell? ⟨g,5,none⟩=some (.slice a2 n2 c2):=by rw [cell_of_row W g 5 _ _ (0,0) h.row];rfl
theorem OpBx.f (h:OpBx W g k0 k1 a1 n1 c1 k3 k4 a2 n2 c2) (o:Nat):W.frozen? ⟨g,o,none⟩=false:=frozen_of_row W g o _ _ h.row
theorem opbx_new (w:World) (k0 k1:Int) (a1:Option Addr) (n1 c1:Nat) (k3 k4:Int) (a2:Option Addr) (n2 c2:Nat):OpBx (w.alloc (.cells #[.int .i64 k0,.int .i64 k1,.slice a1 n1 c1,.int .i64 k3,.int .i64 k4,.slice a2 n2 c2] 60)) w.heap.size k0 k1 a1 n1 c1 k3 k4 a2 n2 c2:=⟨heap_alloc_new w _⟩
end
theorem cell_ext {w w':World} {b o:Nat} {v:Value} (h:w.cell? ⟨b,o,none⟩=some v) (k:Ext w w'):w'.cell? ⟨b,o,none⟩=some v :=
 (k.cell (p:=⟨b,o,none⟩) (World.block_lt_of_cell? w ⟨b,o,none⟩ h)).trans h
theorem ext_al (w:World) (o:Obj):Ext w (w.alloc o):=(Below.refl _ _).alloc (Nat.le_refl _) o
theorem checkControls_any (k0 k1:Int) (a1:Option Addr) (n1 c1:Nat) (q k4:Int) (a2:Option Addr) (n2 c2:Nat) (l:List Int) (n:Int) (w:World) (h:IntsAt w a1 n1 l) (hnc:n1<=c1) (hc:c1<=9223372036854775807) :
  Calls Tryz.prog 112 #[.agg #[.int .i64 k0,.int .i64 k1,.slice a1 n1 c1,.int .i64 q,.int .i64 k4,.slice a2 n2 c2],.int .i64 n] w fun e w'=>e=.returned (.int .i64 (ctlCode q n [] l))/\Ext w w':=by
 have HE:=Lh (ext_al w (.cells #[.int .i64 k0,.int .i64 k1,.slice a1 n1 c1,.int .i64 q,.int .i64 k4,.slice a2 n2 c2] 60));have bx:=opbx_new w k0 k1 a1 n1 c1 q k4 a2 n2 c2;have I0:=h.ext HE.out;have m2:=bx.x2;have m3:=bx.x3;have Hl:=Lh h.1
 have hab:n1=0\/∃ b o,a1=some ⟨b,o,none⟩:=by
  rcases h.2 with h0 | ⟨b,o,e,_,hc⟩
  ·exact Or.inl h0
  ·exact Or.inr ⟨b,o,e⟩
 obtain ⟨r,hr⟩:∃ r,ctlCode q n [] l=r:=⟨_,rfl⟩;rw [hr];have Hr:=Lh hr;clear h hr bx
 go_enter Tryz.func112,Tryz.ntmps112
 go_wp2_with fail
 generalize w.alloc (.cells #[.int .i64 k0,.int .i64 k1,.slice a1 n1 c1,.int .i64 q,.int .i64 k4,.slice a2 n2 c2] 60)=W0 at *;have HI0:=Lh I0;clear I0
 go_loopg [10] n1 (fun k s10 wr=>wr=W0/\∃ i:Nat,s10=.int .i64 (i:Int)/\i<=n1/\n1-i=k/\r=ctlCode q n (l.take i) (l.drop i))
 case atStart=>exact ⟨rfl,0,rfl,by omega,by omega,Hr.out.symm⟩
 case round =>
  obtain ⟨rfl,i,rfl,hi,hk,hri⟩:=hrel
  by_cases hin:i=n1
  ·have h2:¬ (i:Int)<(n1:Int):=by omega
   have hz:r=0:=by rw [hri];exact ctlCode_end q n l i (by rw [Hl.out];omega)
   have HF:=Lh hz;clear hri hz
   go_wp2_with fail
   go_ret
   exact ⟨congrArg (fun b=>Ending.returned (Value.int .i64 b)) HF.out.symm,HE.out⟩
  ·have h2:(i:Int)<(n1:Int):=by omega
   have h0:(0:Int)<=(i:Int):=by omega
   have hic:(i:Int)<=(c1:Int):=by omega
   rcases hab with h | ⟨b,o,rfl⟩
   ·omega
   obtain ⟨b',o',e,_,hcell⟩:=HI0.out.at (by omega)
   cases e
   have hci:=hcell i (by omega);obtain ⟨y,hy⟩:∃ y,l.getD i 0=y:=⟨_,rfl⟩;rw [hy] at hci;have hst:=ctlCode_step q n l i (by rw [Hl.out];omega);rw [<-hri,hy] at hst;have Hst:=Lh hst;have HB:=Lh (isBelow_any y n wr);have HC:=Lh (Contains_any (some ⟨b,o,none⟩) i c1 (l.take i) y wr (HI0.out.take i (by omega)) (by omega) hc);obtain ⟨bl,hbl⟩:∃ x,below y n=x:=⟨_,rfl⟩;rw [hbl] at HB;clear hcell hy hri hst
   cases bl
   ·have hz:r=10:=by rw [Hst.out,if_pos hbl]
    have HF:=Lh hz;clear hz Hst hbl
    go_wp2_with fail
    refine HB.out.mono ?_;rintro e w1 ⟨rfl,rfl⟩
    go_wp2_with fail
    go_ret
    exact ⟨congrArg (fun b=>Ending.returned (Value.int .i64 b)) HF.out.symm,HE.out⟩
   ·have hst1:r=if y=q\/y ∈ l.take i then 12 else ctlCode q n (l.take (i+1)) (l.drop (i+1)):=by rw [Hst.out,if_neg (by rw [hbl];decide)]
    have Hst1:=Lh hst1;clear hst1 Hst hbl
    by_cases hyq:y=q
    ·have hb:(y == q)=true:=by simp [hyq]
     have hz:r=12:=by rw [Hst1.out,if_pos (Or.inl hyq)]
     have HF:=Lh hz;clear hz hyq Hst1
     go_wp2_with fail
     refine HB.out.mono ?_;rintro e w1 ⟨rfl,rfl⟩
     go_wp2_with fail
     go_ret
     exact ⟨congrArg (fun b=>Ending.returned (Value.int .i64 b)) HF.out.symm,HE.out⟩
    ·have hb:(y == q)=false:=by simp [hyq]
     have Hyq:=Lh hyq;obtain ⟨bm,hbm⟩:∃ x,decide (y ∈ l.take i)=x:=⟨_,rfl⟩;rw [hbm] at HC;clear hyq
     cases bm
     ·have hz:r=ctlCode q n (l.take (i+1)) (l.drop (i+1)):=by rw [Hst1.out,if_neg (fun h=>h.elim Hyq.out (of_decide_eq_false hbm))]
      have HF:=Lh hz;clear hz hbm Hst1
      go_wp2_with fail
      refine HB.out.mono ?_;rintro e w1 ⟨rfl,rfl⟩
      go_wp2_with fail
      refine HC.out.mono ?_;rintro e w1 ⟨rfl,rfl⟩
      go_wp2_with fail
      go_roundg (n1-(i+1))
      case measure=>omega
      case rel=>exact ⟨rfl,i+1,by go_num,by omega,rfl,HF.out⟩
     ·have hz:r=12:=by rw [Hst1.out,if_pos (Or.inr (of_decide_eq_true hbm))]
      have HF:=Lh hz;clear hz hbm Hst1
      go_wp2_with fail
      refine HB.out.mono ?_;rintro e w1 ⟨rfl,rfl⟩
      go_wp2_with fail
      refine HC.out.mono ?_;rintro e w1 ⟨rfl,rfl⟩
      go_wp2_with fail
      go_ret
      exact ⟨congrArg (fun b=>Ending.returned (Value.int .i64 b)) HF.out.symm,HE.out⟩
end Go.Proofs.YtfjnlopbmkimiaaGreatDoor
