/-
  A region that draws its order, calls one function behind the other, and makes one or two variables that wait for nothing: the variables may be made ahead of, between or behind the calls. What is asked of the calls is asked once, in every world that extends the one at hand. The reference: a number over the root of two (RHalf); how deep it is (RDepth). Gcd, where neither is 0. Fractions: lowest, Over, Parts.
-/
import Derived.OrdersHeld
import Derived.ProofKit
import Derived.RegionTactic
import Derived.Test.YtiicfpdiehgikaaGreatDoorS19Vf
namespace Go.Proofs.YtiicfpdiehgikaaGreatDoor
set_option maxRecDepth 100000
set_option maxHeartbeats 4000000
open Go.RowKit
theorem extN (w:World) (o:Obj):Ext w (w.alloc o):=(Below.refl _ _).alloc (Nat.le_refl _) o
section
variable {P:Program} {md:Region.Mode} {ops:Array Oper} {Q:Exit→Act→World→Prop} {S:World→Prop}
theorem anyH_one {i:Nat} {o:Oper} {n:Nat} {l:Array Bool} {a:Act} {w:World} (hr:Region.ready md ops l=[i]) (ho:ops[i]?=some o)
  (h:∀ K':Act→World→Prop,Shut (∀ a w,S w→wpAnyH P md ops Q S n (l.setIfInBounds i true) a w→K' a w)→if Region.wanted o (yielded ops a.tmps)=true then Oper.wp P o a w K' Q else K' (a.put o.dst undef) w) :
  wpAnyH P md ops Q S (n+1) l a w:=by
 refine ⟨fun h0=>(by rw [hr] at h0;cases h0),fun j hj=>?_⟩
 rw [hr] at hj
 rcases List.mem_singleton.1 hj with rfl
 exact wpOp_step ho (fun K' hK=>h K' (fun a w hS hW=>hK a w ⟨hS,hW⟩))
theorem anyH_tk {i:Nat} {o:Oper} {n:Nat} {l:Array Bool} {a:Act} {w:World} (v:Value) (ho:ops[i]?=some o) (hs:Region.noSelect ops=true) (hf:Region.free md ops l i=true) (hr:(Region.ready md ops l).contains i=true)
  (hQ:∀ c a w,Q (.panic c) (a.put o.dst v) w→Q (.panic c) a w) (hy:YieldsIf P ops S o v a) (hS:S w) (l':Array Bool) (hl:l.setIfInBounds i true=l') (a':Act) (ha:a.put o.dst v=a') (h:wpAnyH P md ops Q S n l' a' w):wpAnyH P md ops Q S (n+1) l a w :=
 wpAnyH_take ho hs hf hr hQ hy hS (by rw [hl,ha];exact h)
def IsAlloc (P:Program) (ops:Array Oper) (j d:Nat) (ty:TypeId) (z:Array Value):Prop :=
 ∃ o,ops[j]?=some o∧o.dst=some d∧(∀ a:Act,Region.wanted o (yielded ops a.tmps)=true)∧∀ (a:Act) (w:World),(execOp a.eval o).run P w=.ok (.value (.pointer (some ⟨w.heap.size,0,none⟩))) (w.alloc (.cells z ty))
theorem wpOp_alloc {j d:Nat} {ty:TypeId} {z:Array Value} (hA:IsAlloc P ops j d ty z) {K:Act→World→Prop} {a:Act} {w:World} (h:K (a.put (some d) (.pointer (some ⟨w.heap.size,0,none⟩))) (w.alloc (.cells z ty))):wpOp P ops Q j K a w:=by
 obtain ⟨o,ho,hd,hw,hrun⟩:=hA
 refine wpOp_step ho fun K' hK=>?_
 rw [if_pos (hw a)]
 unfold Oper.wp
 rw [hrun,Oper.upon_value,hd]
 exact hK _ _ h
theorem wpOp_call {i:Nat} {o:Oper} {a:Act} {w:World} (ho:ops[i]?=some o) (hw:Region.wanted o (yielded ops a.tmps)=true) {f:FuncId} {args:Array Value}
  (hrun:(execOp a.eval o).run P w=.ok (.enter f args) w) {R:Value→World→Prop} (hc:Calls P f args w fun e w'=>∃ v,e=.returned v∧R v w') {K:Act→World→Prop} (h:∀ v w',R v w'→K (a.put o.dst v) w'):wpOp P ops Q i K a w:=by
 refine wpOp_step ho fun K' hK=>?_
 rw [if_pos hw]
 unfold Oper.wp
 rw [hrun,Oper.upon_enter]
 refine hc.mono ?_
 rintro e w' ⟨v,rfl,hv⟩
 exact hK _ _ (h v w' hv)
theorem anyH_go {i:Nat} {o:Oper} {n:Nat} {l:Array Bool} {a:Act} {w:World} (hr:Region.ready md ops l=[i]) (ho:ops[i]?=some o) (hw:Region.wanted o (yielded ops a.tmps)=true) (f:FuncId) (args:Array Value)
  (hrun:(execOp a.eval o).run P w=.ok (.enter f args) w) {R:Value→World→Prop} (hc:Calls P f args w fun e w'=>∃ v,e=.returned v∧R v w') (l':Array Bool) (hl:l.setIfInBounds i true=l') (fr:Value→Act) (hf:∀ v,a.put o.dst v=fr v)
  (h:∀ v w',R v w'→S w'∧wpAnyH P md ops Q S n l' (fr v) w'):wpAnyH P md ops Q S (n+1) l a w:=by
 refine ⟨fun h0=>(by rw [hr] at h0;cases h0),fun j hj=>?_⟩
 rw [hr] at hj
 rcases List.mem_singleton.1 hj with rfl
 refine wpOp_call ho hw hrun hc fun v w' hv=>?_
 rw [hl,hf]
 exact h v w' hv
def NewV (W0 w:World) (ty:TypeId) (z:Array Value) (D:Nat):Prop:=W0.heap.size≤D∧w.heap[D]?=some (.cells z ty (0,0))
theorem NewV.ext {W0 w w':World} {ty:TypeId} {z:Array Value} {D:Nat} (h:NewV W0 w ty z D) (k:Ext w w'):NewV W0 w' ty z D:=⟨h.1,(k.block _ (Array.getElem?_eq_some_iff.1 h.2).1).trans h.2⟩
theorem newV_alloc {W0 w:World} (h:Ext W0 w) (ty:TypeId) (z:Array Value):NewV W0 (w.alloc (.cells z ty)) ty z w.heap.size:=⟨h.size,heap_alloc_new w _⟩
theorem NewV.lt {W0 w:World} {ty:TypeId} {z:Array Value} {D:Nat} (h:NewV W0 w ty z D):D<w.heap.size:=(Array.getElem?_eq_some_iff.1 h.2).1
abbrev ptrV (D:Nat):Value:=.pointer (some ⟨D,0,none⟩)
def Flo1 (P:Program) (md:Region.Mode) (ops:Array Oper) (Q:Exit→Act→World→Prop) (S:World→Prop) (W0:World) (ty:TypeId) (z:Array Value) (n:Nat) (l:Bool→Array Bool) (fr:Value→Act) (w:World):Prop :=
 ∀ wx,Ext w wx→wpAnyH P md ops Q S (n+1) (l false) (fr undef) wx∧∀ D,NewV W0 wx ty z D→wpAnyH P md ops Q S n (l true) (fr (ptrV D)) wx
theorem Flo1.start {W0 w:World} {ty:TypeId} {z:Array Value} {n:Nat} {l:Bool→Array Bool} {fr:Value→Act} (h:Flo1 P md ops Q S W0 ty z n l fr w):wpAnyH P md ops Q S (n+1) (l false) (fr undef) w:=(h w (Ext.refl _)).1
theorem Flo1.call {W0 w:World} {ty:TypeId} {z:Array Value} {n:Nat} {l:Bool→Array Bool} {fr:Value→Act} {j d:Nat} (hA:IsAlloc P ops j d ty z) (hS:∀ w',Ext W0 w'→S w') (hw:Ext W0 w) (i:Nat) {o:Oper} (ho:ops[i]?=some o)
  (hr:∀ p,Region.ready md ops (l p)=i :: (if p then [] else [j])) (hl:(l false).setIfInBounds j true=l true) (hfr:∀ t v,(fr t).put (some d) v=fr v)
  (hwa:∀ t,Region.wanted o (yielded ops (fr t).tmps)=true) (f:FuncId) (args:Array Value) (hrun:∀ t wx,(execOp (fr t).eval o).run P wx=.ok (.enter f args) wx)
  {R:Value→World→Prop} (hc:∀ wx,Ext w wx→Calls P f args wx fun e w'=>∃ v,e=.returned v∧R v w'∧Ext wx w') (l':Bool→Array Bool) (hl':∀ p,(l p).setIfInBounds i true=l' p) (fr':Value→Value→Act) (hf':∀ v t,(fr t).put o.dst v=fr' v t)
  (next:∀ v w',R v w'→Ext w w'→Flo1 P md ops Q S W0 ty z n l' (fr' v) w'):Flo1 P md ops Q S W0 ty z (n+1) l fr w:=by
 have two:∀ wx,Ext w wx→∀ D,NewV W0 wx ty z D→wpAnyH P md ops Q S (n+1) (l true) (fr (ptrV D)) wx:=fun wx hx D hD=>by
  have hr1:Region.ready md ops (l true)=[i]:=hr true
  refine ⟨fun h0=>(by rw [hr1] at h0;cases h0),fun t ht=>?_⟩
  rw [hr1] at ht
  rcases List.mem_singleton.1 ht with rfl
  refine wpOp_call ho (hwa _) (hrun _ _) (hc wx hx) fun v w' ⟨hv,hx'⟩=>?_
  rw [hl',hf']
  exact ⟨hS _ ((hw.trans hx).trans hx'),(next v w' hv (hx.trans hx') w' (Ext.refl _)).2 D (hD.ext hx')⟩
 intro wx hx
 refine ⟨?_,two wx hx⟩
 have hr0:Region.ready md ops (l false)=[i,j]:=hr false
 refine ⟨fun h0=>(by rw [hr0] at h0;cases h0),fun t ht=>?_⟩
 rw [hr0] at ht
 rcases List.mem_cons.1 ht with rfl | ht
 ·refine wpOp_call ho (hwa _) (hrun _ _) (hc wx hx) fun v w' ⟨hv,hx'⟩=>?_
  rw [hl',hf']
  exact ⟨hS _ ((hw.trans hx).trans hx'),(next v w' hv (hx.trans hx') w' (Ext.refl _)).1⟩
 ·rcases List.mem_singleton.1 ht with rfl
  refine wpOp_alloc hA ?_
  rw [hl,hfr]
  have he:=extN wx (.cells z ty)
  exact ⟨hS _ ((hw.trans hx).trans he),two _ (hx.trans he) _ (newV_alloc (hw.trans hx) ty z)⟩
theorem Flo1.take {W0 w:World} {ty:TypeId} {z:Array Value} {n:Nat} {l:Bool→Array Bool} {fr:Value→Act} (hS:∀ w',Ext W0 w'→S w') (hw:Ext W0 w) (i:Nat) {o:Oper} (v:Value) (ho:ops[i]?=some o) (hs:Region.noSelect ops=true)
  (hf:∀ p,Region.free md ops (l p) i=true) (hr:∀ p,(Region.ready md ops (l p)).contains i=true) (hQ:∀ c a w,Q (.panic c) (a.put o.dst v) w→Q (.panic c) a w) (hy:∀ t,YieldsIf P ops S o v (fr t))
  (l':Bool→Array Bool) (hl':∀ p,(l p).setIfInBounds i true=l' p) (fr':Value→Act) (hf':∀ t,(fr t).put o.dst v=fr' t)
  (next:Flo1 P md ops Q S W0 ty z n l' fr' w):Flo1 P md ops Q S W0 ty z (n+1) l fr w:=fun wx hx =>
 ⟨wpAnyH_take ho hs (hf _) (hr _) hQ (hy _) (hS _ (hw.trans hx)) (by rw [hl',hf'];exact (next wx hx).1),fun D hD=>wpAnyH_take ho hs (hf _) (hr _) hQ (hy _) (hS _ (hw.trans hx)) (by rw [hl',hf'];exact (next wx hx).2 D hD)⟩
theorem Flo1.done {W0 w:World} {ty:TypeId} {z:Array Value} {n:Nat} {l:Bool→Array Bool} {fr:Value→Act} {j d:Nat} (hA:IsAlloc P ops j d ty z) (hS:∀ w',Ext W0 w'→S w') (hw:Ext W0 w)
  (hr:Region.ready md ops (l false)=[j]) (hl:(l false).setIfInBounds j true=l true) (hfr:∀ t v,(fr t).put (some d) v=fr v)
  (h:∀ wx,Ext w wx→∀ D,NewV W0 wx ty z D→wpAnyH P md ops Q S n (l true) (fr (ptrV D)) wx):Flo1 P md ops Q S W0 ty z n l fr w:=by
 intro wx hx
 refine ⟨?_,h wx hx⟩
 refine ⟨fun h0=>(by rw [hr] at h0;cases h0),fun t ht=>?_⟩
 rw [hr] at ht
 rcases List.mem_singleton.1 ht with rfl
 refine wpOp_alloc hA ?_
 rw [hl,hfr]
 have he:=extN wx (.cells z ty)
 exact ⟨hS _ ((hw.trans hx).trans he),h _ (hx.trans he) _ (newV_alloc (hw.trans hx) ty z)⟩
def Flo2 (P:Program) (md:Region.Mode) (ops:Array Oper) (Q:Exit→Act→World→Prop) (S:World→Prop) (W0:World) (ty:TypeId) (z:Array Value) (ty':TypeId) (z':Array Value) (n:Nat) (l:Bool→Bool→Array Bool) (fr:Value→Value→Act) (w:World):Prop :=
 ∀ wx,Ext w wx→wpAnyH P md ops Q S (n+2) (l false false) (fr undef undef) wx∧(∀ D,NewV W0 wx ty z D→wpAnyH P md ops Q S (n+1) (l true false) (fr (ptrV D) undef) wx) ∧
  (∀ D,NewV W0 wx ty' z' D→wpAnyH P md ops Q S (n+1) (l false true) (fr undef (ptrV D)) wx)∧∀ D D',NewV W0 wx ty z D→NewV W0 wx ty' z' D'→D≠D'→wpAnyH P md ops Q S n (l true true) (fr (ptrV D) (ptrV D')) wx
theorem Flo2.start {W0 w:World} {ty ty':TypeId} {z z':Array Value} {n:Nat} {l:Bool→Bool→Array Bool} {fr:Value→Value→Act} (h:Flo2 P md ops Q S W0 ty z ty' z' n l fr w):wpAnyH P md ops Q S (n+2) (l false false) (fr undef undef) w:=(h w (Ext.refl _)).1
theorem Flo2.of {W0 w:World} {ty ty':TypeId} {z z':Array Value} {n:Nat} {l:Bool→Bool→Array Bool} {fr:Value→Value→Act} {j d j' d':Nat} (hA:IsAlloc P ops j d ty z) (hA':IsAlloc P ops j' d' ty' z') (hS:∀ w',Ext W0 w'→S w') (hw:Ext W0 w)
  (hl:∀ q,(l false q).setIfInBounds j true=l true q) (hl':∀ p,(l p false).setIfInBounds j' true=l p true) (hfr:∀ t t' v,(fr t t').put (some d) v=fr v t') (hfr':∀ t t' v,(fr t t').put (some d') v=fr t v)
  (M:(p q:Bool)→List Nat) (hr:∀ p q,Region.ready md ops (l p q)=M p q++((if p then [] else [j])++(if q then [] else [j'])))
  (hm:∀ p q,∀ i ∈ M p q,∀ t t' wx,Ext w wx→(p=true→∃ D,t=ptrV D∧NewV W0 wx ty z D∧(q=true→∀ D',t'=ptrV D'→D≠D'))→(p=false→t=undef)→(q=true→∃ D,t'=ptrV D∧NewV W0 wx ty' z' D)→(q=false→t'=undef) →
   wpOp P ops Q i (fun a' w'=>S w'∧wpAnyH P md ops Q S (n+(if p then 0 else 1)+(if q then 0 else 1)) ((l p q).setIfInBounds i true) a' w') (fr t t') wx)
  (hne:M true true≠[]):Flo2 P md ops Q S W0 ty z ty' z' (n+1) l fr w:=by
 have tt:∀ wx,Ext w wx→∀ D D',NewV W0 wx ty z D→NewV W0 wx ty' z' D'→D≠D'→wpAnyH P md ops Q S (n+1) (l true true) (fr (ptrV D) (ptrV D')) wx:=fun wx hx D D' hD hD' hne'=>by
  have hr1:Region.ready md ops (l true true)=M true true:=by rw [hr];simp
  refine ⟨fun h0=>absurd (hr1 ▸ h0) hne,fun i hi=>?_⟩
  rw [hr1] at hi
  exact hm true true i hi _ _ wx hx (fun _=>⟨D,rfl,hD,fun _ D2 e=>by injection e with e;injection e with e;injection e with e;omega⟩) (fun h=>by cases h) (fun _=>⟨D',rfl,hD'⟩) (fun h=>by cases h)
 have tf:∀ wx,Ext w wx→∀ D,NewV W0 wx ty z D→wpAnyH P md ops Q S (n+2) (l true false) (fr (ptrV D) undef) wx:=fun wx hx D hD=>by
  have hr1:Region.ready md ops (l true false)=M true false++[j']:=by rw [hr];simp
  refine ⟨fun h0=>(by rw [hr1] at h0;simp at h0),fun i hi=>?_⟩
  rw [hr1] at hi
  rcases List.mem_append.1 hi with hi | hi
  ·exact hm true false i hi _ _ wx hx (fun _=>⟨D,rfl,hD,fun h=>by cases h⟩) (fun h=>by cases h) (fun h=>by cases h) (fun _=>rfl)
  ·rcases List.mem_singleton.1 hi with rfl
   refine wpOp_alloc hA' ?_
   rw [hl',hfr']
   have he:=extN wx (.cells z' ty')
   exact ⟨hS _ ((hw.trans hx).trans he),tt _ (hx.trans he) _ _ (hD.ext he) (newV_alloc (hw.trans hx) ty' z') (Nat.ne_of_lt hD.lt)⟩
 have ft:∀ wx,Ext w wx→∀ D,NewV W0 wx ty' z' D→wpAnyH P md ops Q S (n+2) (l false true) (fr undef (ptrV D)) wx:=fun wx hx D hD=>by
  have hr1:Region.ready md ops (l false true)=M false true++[j]:=by rw [hr];simp
  refine ⟨fun h0=>(by rw [hr1] at h0;simp at h0),fun i hi=>?_⟩
  rw [hr1] at hi
  rcases List.mem_append.1 hi with hi | hi
  ·exact hm false true i hi _ _ wx hx (fun h=>by cases h) (fun _=>rfl) (fun _=>⟨D,rfl,hD⟩) (fun h=>by cases h)
  ·rcases List.mem_singleton.1 hi with rfl
   refine wpOp_alloc hA ?_
   rw [hl,hfr]
   have he:=extN wx (.cells z ty)
   exact ⟨hS _ ((hw.trans hx).trans he),tt _ (hx.trans he) _ _ (newV_alloc (hw.trans hx) ty z) (hD.ext he) (Nat.ne_of_gt hD.lt)⟩
 intro wx hx
 refine ⟨?_,tf wx hx,ft wx hx,tt wx hx⟩
 have hr1:Region.ready md ops (l false false)=M false false++[j,j']:=by rw [hr];simp
 refine ⟨fun h0=>(by rw [hr1] at h0;simp at h0),fun i hi=>?_⟩
 rw [hr1] at hi
 rcases List.mem_append.1 hi with hi | hi
 ·exact hm false false i hi _ _ wx hx (fun h=>by cases h) (fun _=>rfl) (fun h=>by cases h) (fun _=>rfl)
 ·rcases List.mem_cons.1 hi with rfl | hi
  ·refine wpOp_alloc hA ?_
   rw [hl,hfr]
   have he:=extN wx (.cells z ty)
   exact ⟨hS _ ((hw.trans hx).trans he),tf _ (hx.trans he) _ (newV_alloc (hw.trans hx) ty z)⟩
  ·rcases List.mem_singleton.1 hi with rfl
   refine wpOp_alloc hA' ?_
   rw [hl',hfr']
   have he:=extN wx (.cells z' ty')
   exact ⟨hS _ ((hw.trans hx).trans he),ft _ (hx.trans he) _ (newV_alloc (hw.trans hx) ty' z')⟩
theorem Flo2.call {W0 w:World} {ty ty':TypeId} {z z':Array Value} {n:Nat} {l:Bool→Bool→Array Bool} {fr:Value→Value→Act} {j d j' d':Nat} (hA:IsAlloc P ops j d ty z) (hA':IsAlloc P ops j' d' ty' z') (hS:∀ w',Ext W0 w'→S w') (hw:Ext W0 w) (i:Nat) {o:Oper} (ho:ops[i]?=some o)
  (hl:∀ q,(l false q).setIfInBounds j true=l true q) (hl':∀ p,(l p false).setIfInBounds j' true=l p true) (hfr:∀ t t' v,(fr t t').put (some d) v=fr v t') (hfr':∀ t t' v,(fr t t').put (some d') v=fr t v)
  (hr:∀ p q,Region.ready md ops (l p q)=[i]++((if p then [] else [j])++(if q then [] else [j'])))
  (hwa:∀ t t',Region.wanted o (yielded ops (fr t t').tmps)=true) (f:FuncId) (args:Array Value) (hrun:∀ t t' wx,(execOp (fr t t').eval o).run P wx=.ok (.enter f args) wx)
  {R:Value→World→Prop} (hc:∀ wx,Ext w wx→Calls P f args wx fun e w'=>∃ v,e=.returned v∧R v w'∧Ext wx w') (m:Bool→Bool→Array Bool) (hm:∀ p q,(l p q).setIfInBounds i true=m p q) (fr':Value→Value→Value→Act) (hf':∀ v t t',(fr t t').put o.dst v=fr' v t t')
  (next:∀ v w',R v w'→Ext w w'→Flo2 P md ops Q S W0 ty z ty' z' n m (fr' v) w'):Flo2 P md ops Q S W0 ty z ty' z' (n+1) l fr w:=by
 refine Flo2.of hA hA' hS hw hl hl' hfr hfr' (fun _ _=>[i]) hr ?_ (by simp)
 intro p q k hk t t' wx hx h1 h2 h3 h4
 rcases List.mem_singleton.1 hk with rfl
 refine wpOp_call ho (hwa _ _) (hrun _ _ _) (hc wx hx) fun v w' ⟨hv,hx'⟩=>?_
 rw [hm,hf']
 refine ⟨hS _ ((hw.trans hx).trans hx'),?_⟩
 have hn:=next v w' hv (hx.trans hx') w' (Ext.refl _)
 cases p<;>cases q
 ·rw [h2 rfl,h4 rfl];exact hn.1
 ·obtain ⟨D,rfl,hD⟩:=h3 rfl
  rw [h2 rfl];exact hn.2.2.1 D (hD.ext hx')
 ·obtain ⟨D,rfl,hD,_⟩:=h1 rfl
  rw [h4 rfl];exact hn.2.1 D (hD.ext hx')
 ·obtain ⟨D,rfl,hD,hne⟩:=h1 rfl
  obtain ⟨D',rfl,hD'⟩:=h3 rfl
  exact hn.2.2.2 D D' (hD.ext hx') (hD'.ext hx') (hne rfl D' rfl)
theorem Flo2.take {W0 w:World} {ty ty':TypeId} {z z':Array Value} {n:Nat} {l:Bool→Bool→Array Bool} {fr:Value→Value→Act} (hS:∀ w',Ext W0 w'→S w') (hw:Ext W0 w) (i:Nat) {o:Oper} (v:Value) (ho:ops[i]?=some o) (hs:Region.noSelect ops=true)
  (hf:∀ p q,Region.free md ops (l p q) i=true) (hr:∀ p q,(Region.ready md ops (l p q)).contains i=true) (hQ:∀ c a w,Q (.panic c) (a.put o.dst v) w→Q (.panic c) a w) (hy:∀ t t',YieldsIf P ops S o v (fr t t'))
  (l':Bool→Bool→Array Bool) (hl':∀ p q,(l p q).setIfInBounds i true=l' p q) (fr':Value→Value→Act) (hf':∀ t t',(fr t t').put o.dst v=fr' t t')
  (next:Flo2 P md ops Q S W0 ty z ty' z' n l' fr' w):Flo2 P md ops Q S W0 ty z ty' z' (n+1) l fr w:=fun wx hx =>
 have k:=fun {fuel:Nat} {p q:Bool} {t t':Value} (h:wpAnyH P md ops Q S fuel (l' p q) (fr' t t') wx)=>wpAnyH_take (fuel:=fuel) ho hs (hf p q) (hr p q) hQ (hy t t') (hS _ (hw.trans hx)) (by rw [hl',hf'];exact h)
 ⟨k (next wx hx).1,fun D hD=>k ((next wx hx).2.1 D hD),fun D hD=>k ((next wx hx).2.2.1 D hD),fun D D' hD hD' hne=>k ((next wx hx).2.2.2 D D' hD hD' hne)⟩
theorem Flo2.done {W0 w:World} {ty ty':TypeId} {z z':Array Value} {n:Nat} {l:Bool→Bool→Array Bool} {fr:Value→Value→Act} {j d j' d':Nat} (hA:IsAlloc P ops j d ty z) (hA':IsAlloc P ops j' d' ty' z') (hS:∀ w',Ext W0 w'→S w') (hw:Ext W0 w)
  (hl:∀ q,(l false q).setIfInBounds j true=l true q) (hl':∀ p,(l p false).setIfInBounds j' true=l p true) (hfr:∀ t t' v,(fr t t').put (some d) v=fr v t') (hfr':∀ t t' v,(fr t t').put (some d') v=fr t v)
  (hr:∀ p q,(p && q)=false→Region.ready md ops (l p q)=((if p then [] else [j])++(if q then [] else [j'])))
  (h:∀ wx,Ext w wx→∀ D D',NewV W0 wx ty z D→NewV W0 wx ty' z' D'→D≠D'→wpAnyH P md ops Q S n (l true true) (fr (ptrV D) (ptrV D')) wx):Flo2 P md ops Q S W0 ty z ty' z' n l fr w:=by
 have tf:∀ wx,Ext w wx→∀ D,NewV W0 wx ty z D→wpAnyH P md ops Q S (n+1) (l true false) (fr (ptrV D) undef) wx:=fun wx hx D hD=>by
  have hr1:Region.ready md ops (l true false)=[j']:=hr true false rfl
  refine ⟨fun h0=>(by rw [hr1] at h0;cases h0),fun i hi=>?_⟩
  rw [hr1] at hi
  rcases List.mem_singleton.1 hi with rfl
  refine wpOp_alloc hA' ?_
  rw [hl',hfr']
  have he:=extN wx (.cells z' ty')
  exact ⟨hS _ ((hw.trans hx).trans he),h _ (hx.trans he) _ _ (hD.ext he) (newV_alloc (hw.trans hx) ty' z') (Nat.ne_of_lt hD.lt)⟩
 have ft:∀ wx,Ext w wx→∀ D,NewV W0 wx ty' z' D→wpAnyH P md ops Q S (n+1) (l false true) (fr undef (ptrV D)) wx:=fun wx hx D hD=>by
  have hr1:Region.ready md ops (l false true)=[j]:=hr false true rfl
  refine ⟨fun h0=>(by rw [hr1] at h0;cases h0),fun i hi=>?_⟩
  rw [hr1] at hi
  rcases List.mem_singleton.1 hi with rfl
  refine wpOp_alloc hA ?_
  rw [hl,hfr]
  have he:=extN wx (.cells z ty)
  exact ⟨hS _ ((hw.trans hx).trans he),h _ (hx.trans he) _ _ (newV_alloc (hw.trans hx) ty z) (hD.ext he) (Nat.ne_of_gt hD.lt)⟩
 intro wx hx
 refine ⟨?_,tf wx hx,ft wx hx,h wx hx⟩
 have hr1:Region.ready md ops (l false false)=[j,j']:=hr false false rfl
 refine ⟨fun h0=>(by rw [hr1] at h0;cases h0),fun i hi=>?_⟩
 rw [hr1] at hi
 rcases List.mem_cons.1 hi with rfl | hi
 ·refine wpOp_alloc hA ?_
  rw [hl,hfr]
  have he:=extN wx (.cells z ty)
  exact ⟨hS _ ((hw.trans hx).trans he),tf _ (hx.trans he) _ (newV_alloc (hw.trans hx) ty z)⟩
 ·rcases List.mem_singleton.1 hi with rfl
  refine wpOp_alloc hA' ?_
  rw [hl',hfr']
  have he:=extN wx (.cells z' ty')
  exact ⟨hS _ ((hw.trans hx).trans he),ft _ (hx.trans he) _ (newV_alloc (hw.trans hx) ty' z')⟩
end
theorem hf_sq {x:Nm} (h:Anti x.a):nHf x=⟨sqR x.a,x.e+1⟩:=by unfold nHf;rw [sqR_add h]
theorem eq_hf {x z:Nm} (h:Anti x.a) (q:EqN z (nSq x)):EqN ⟨z.a,z.e+1⟩ (nHf x):=fun k=>by
 have:=q k
 rw [hf_sq h]
 simp only [nSq] at this ⊢
 show z.a k*2 ^ (x.e+1)=sqR x.a k*2 ^ (z.e+1)
 rw [Int.pow_succ,Int.pow_succ,←Int.mul_assoc,←Int.mul_assoc,this]
theorem eq_hf0 {x z:Nm} (h:Anti x.a) (q:EqN z (nSq x)) (hz:∀ k,z.a k=0):EqN z (nHf x):=fun k=>by
 have h1:=q.zero.1 hz k
 rw [hf_sq h]
 show z.a k*2 ^ (x.e+1)=sqR x.a k*2 ^ z.e
 have h2:sqR x.a k=0:=h1
 rw [hz,h2];simp
theorem ext_setRowQ {w w':World} (h:Ext w w') {g:Nat} (hg:w.heap.size≤g) (cs:Array Value):Ext w (w'.setRow g cs):=by
 have c:=setRow_only w' g cs
 refine ⟨c.os.trans h.os,c.tape.trans h.tape,c.output.trans h.output,by rw [c.size];exact h.size,fun k hk=>?_⟩
 rw [c.block k (by omega)]
 exact h.block k hk
theorem QHalf_nm (ca:Array Value) (x:Nm) (P E:Nat) (w:World) (h:RmA w ca x P E) (hP:P+E+1≤400000) (hE:E≤10000) :
  Calls Tryz.prog 24 #[.agg ca] w fun r w'=>∃ (cr:Array Value) (z:Nm),r=.returned (.agg cr)∧RmA w' cr z (P+E+1) (E+1)∧EqN z (nHf x)∧Ext w w':=by
 obtain ⟨H,hH⟩:∃ H,w.heap.size=H:=⟨_,rfl⟩
 obtain ⟨U,hU⟩:∃ U,(w.alloc (.cells ca 38)).alloc (.cells zeroR 38)=U:=⟨_,rfl⟩
 have E0:Ext w U:=by rw [←hU];exact (Ext.alloc _ _).trans (Ext.alloc _ _)
 have hrA:U.heap[H]?=some (.cells ca 38 (0,0)):=by rw [←hU,←hH];exact ((Ext.alloc _ _).block _ (Array.getElem?_eq_some_iff.1 (heap_alloc_new w (.cells ca 38))).1).trans (heap_alloc_new w _)
 have Z0:ZVar U (H+1) (fun _=>0) 0:=by
  have:=(zcs_zero (w.alloc (.cells ca 38))).box
  rw [←hU,←hH]
  simpa using this
 have lA:=(Array.getElem?_eq_some_iff.1 hrA).1
 have HT:=Lib.hid (fun (k:Int) (wx:World) (hx:Ext U wx)=>QTurn_nm ca x P E k wx (h.ext (E0.trans hx)) (by omega))
 have hi1:=h.info
 have Hant:=Lib.hid h.anti
 have HU:=Lib.hid hU;have HH:=Lib.hid hH;have HZ0:=Lib.hid Z0;have HE0:=Lib.hid E0;have HP:=Lib.hid hP;have HEE:=Lib.hid hE
 clear hU hH Z0 E0 h hP hE
 go_enter Tryz.func24,Tryz.ntmps24
 go_upto_region 1 with fail
 rw [HU.out,HH.out]
 clear HU
 go_cut [3] from 4 to 8 (fun s3 wx=>∃ (D:Nat) (c:Array Value) (z:Nm),s3=.pointer (some ⟨D,0,none⟩)∧wx.heap[D]?=some (.cells c 38 (0,0))∧RmA wx c z (P+E+1) E∧EqN z (nSq x)∧U.heap.size≤D∧Ext U wx)
 case first =>
  have he0:Ext U U.drew:=Below.drew (Ext.refl _)
  have HS:∀ w',Ext U w'→w'.heap[H]?=some (.cells ca 38 (0,0)):=fun w' hx=>(hx.block _ lA).trans hrA
  refine wp_region_held (S:=fun w'=>w'.heap[H]?=some (.cells ca 38 (0,0))) (by kernel_rfl) ?_
  generalize hops:(#[_,_,_,_,_,_,_]:Array Oper)=ops
  have hA0:IsAlloc Tryz.prog ops 5 3 38 zeroR:=by
   subst hops
   exact ⟨_,rfl,rfl,fun _=>rfl,fun _ _=>by kernel_rfl⟩
  subst hops
  refine (Flo1.start (W0:=U) (ty:=38) (z:=zeroR) (l:=(fun p=>#[false,false,false,false,false,p,false])) (fr:=(fun t=>⟨#[.agg ca,.pointer (some ⟨H,0,none⟩),.pointer (some ⟨H+1,0,none⟩),t,undef,undef,undef,undef,undef,undef,undef,undef,undef,undef,undef,undef,undef,undef],[]⟩)) (n:=6) ?_)
  refine Flo1.take HS he0 0 (.agg ca) rfl (by kernel_rfl) (fun p=>by cases p<;>kernel_rfl) (fun p=>by cases p<;>kernel_rfl) (fun _ _ _ h=>h) (fun t=>Or.inl ⟨by kernel_rfl,?_⟩) (fun p=>#[true,false,false,false,false,p,false]) (fun p=>by cases p<;>kernel_rfl) (fun t=>⟨#[.agg ca,.pointer (some ⟨H,0,none⟩),.pointer (some ⟨H+1,0,none⟩),t,.agg ca,undef,undef,undef,undef,undef,undef,undef,undef,undef,undef,undef,undef,undef],[]⟩) (fun _=>by kernel_rfl) ?_
  ·intro w hSw
   exact exec_load_row 38 _ rfl (H) rfl 38 _ (0,0) _ hSw Tryz.underlying38 rfl hi1
  refine Flo1.take HS he0 2 (.agg ca) rfl (by kernel_rfl) (fun p=>by cases p<;>kernel_rfl) (fun p=>by cases p<;>kernel_rfl) (fun _ _ _ h=>h) (fun t=>Or.inl ⟨by kernel_rfl,?_⟩) (fun p=>#[true,false,true,false,false,p,false]) (fun p=>by cases p<;>kernel_rfl) (fun t=>⟨#[.agg ca,.pointer (some ⟨H,0,none⟩),.pointer (some ⟨H+1,0,none⟩),t,.agg ca,undef,.agg ca,undef,undef,undef,undef,undef,undef,undef,undef,undef,undef,undef],[]⟩) (fun _=>by kernel_rfl) ?_
  ·intro w hSw
   exact exec_load_row 38 _ rfl (H) rfl 38 _ (0,0) _ hSw Tryz.underlying38 rfl hi1
  refine Flo1.call hA0 HS he0 1 rfl (fun p=>by cases p<;>kernel_rfl) (by kernel_rfl) (fun _ _=>by kernel_rfl) (fun _=>by kernel_rfl) 22 #[.agg ca,.int .i64 2] (fun _ _=>by kernel_rfl) (R:=fun v w'=>∃ c,v=.agg c∧RmA w' c (nTr 2 x) P E) (fun wx hx=>(HT.out 2 wx (he0.trans hx)).mono ?_) (fun p=>#[true,true,true,false,false,p,false]) (fun p=>by cases p<;>kernel_rfl) (fun vv t=>⟨#[.agg ca,.pointer (some ⟨H,0,none⟩),.pointer (some ⟨H+1,0,none⟩),t,.agg ca,vv,.agg ca,undef,undef,undef,undef,undef,undef,undef,undef,undef,undef,undef],[]⟩) (fun _ _=>by kernel_rfl) ?_
  ·rintro e w' ⟨c,rfl,n,hx'⟩;exact ⟨_,rfl,⟨c,rfl,n⟩,hx'⟩
  rintro v w1x ⟨c5,rfl,n5⟩ hq1
  have he1:=he0.trans hq1
  refine Flo1.call hA0 HS he1 3 rfl (fun p=>by cases p<;>kernel_rfl) (by kernel_rfl) (fun _ _=>by kernel_rfl) (fun _=>by kernel_rfl) 22 #[.agg ca,.int .i64 6] (fun _ _=>by kernel_rfl) (R:=fun v w'=>∃ c,v=.agg c∧RmA w' c (nTr 6 x) P E) (fun wx hx=>(HT.out 6 wx (he1.trans hx)).mono ?_) (fun p=>#[true,true,true,true,false,p,false]) (fun p=>by cases p<;>kernel_rfl) (fun vv t=>⟨#[.agg ca,.pointer (some ⟨H,0,none⟩),.pointer (some ⟨H+1,0,none⟩),t,.agg ca,.agg c5,.agg ca,vv,undef,undef,undef,undef,undef,undef,undef,undef,undef,undef],[]⟩) (fun _ _=>by kernel_rfl) ?_
  ·rintro e w' ⟨c,rfl,n,hx'⟩;exact ⟨_,rfl,⟨c,rfl,n⟩,hx'⟩
  rintro v w2x ⟨c7,rfl,n7⟩ hq2
  have he2:=he1.trans hq2
  refine Flo1.call hA0 HS he2 4 rfl (fun p=>by cases p<;>kernel_rfl) (by kernel_rfl) (fun _ _=>by kernel_rfl) (fun _=>by kernel_rfl) 32 #[.agg c5,.agg c7] (fun _ _=>by kernel_rfl) (R:=fun v w'=>∃ c z,v=.agg c∧RmA w' c z (P+E+1) E∧EqN z (nAdd (nTr 2 x) (nNeg (nTr 6 x)))) (fun wx hx=>(QSub_nm c5 c7 (nTr 2 x) (nTr 6 x) P E wx ((n5.ext hq2).ext hx) (n7.ext hx) HP.out HEE.out).mono ?_) (fun p=>#[true,true,true,true,true,p,false]) (fun p=>by cases p<;>kernel_rfl) (fun vv t=>⟨#[.agg ca,.pointer (some ⟨H,0,none⟩),.pointer (some ⟨H+1,0,none⟩),t,.agg ca,.agg c5,.agg ca,.agg c7,vv,undef,undef,undef,undef,undef,undef,undef,undef,undef],[]⟩) (fun _ _=>by kernel_rfl) ?_
  ·rintro e w' ⟨c,z,rfl,n,q,hx'⟩;exact ⟨_,rfl,⟨c,z,rfl,n,q⟩,hx'⟩
  rintro v w3x ⟨c8,z8,rfl,n8,q8⟩ hq3
  have he3:=he2.trans hq3
  refine Flo1.done hA0 HS he3 (by kernel_rfl) (by kernel_rfl) (fun _ _=>by kernel_rfl) ?_
  intro wy hy D hD
  have hEy:=he3.trans hy
  have n9:=n8.ext hy
  obtain ⟨c1,hr1,hs1,hone,hinf,rr,hzz,hE'⟩:=fin_rm (w:=U) n9.val ⟨_,hD.2,zcs_zero wy⟩ hEy hD.1
  refine anyH_one (i:=6) (by kernel_rfl) rfl (fun Kk hKk=>?_)
  refine stepK_storeR rfl rfl 38 _ _ rfl D c8 rfl rfl 38 _ hr1 hinf hs1 hone ?_
  refine hKk.out _ _ (HS _ hE') ?_
  clear hKk Kk
  refine wpAnyH_done (by kernel_rfl) ?_ _
  go_wp2_with fail
  go_meet
  exact ⟨D,c8,z8,rfl,rr,⟨n9.anti,n9.low,n9.abs,n9.down,hzz⟩,q8.trans (n_sq x),hD.1,hE'⟩
 case rest =>
 obtain ⟨D,c,z,rfl,rD,nD,qD,hD,hxc⟩:=hcut
 obtain ⟨wo,hwo⟩:∃ wo,wo=wc:=⟨_,rfl⟩
 rw [←hwo] at rD nD hxc ⊢
 clear hwo
 have lZ:=HZ0.out.lt
 have iD:=nD.info
 obtain ⟨X,hX⟩:∃ X:Nat→Int,(fun i:Nat=>z.a i)=X:=⟨_,rfl⟩
 have hv:=nD.val
 rw [hX] at hv
 have HX:=Lib.hid hX
 have HnD:=Lib.hid nD;have HqD:=Lib.hid qD;have HrD:=Lib.hid rD;have Hxc:=Lib.hid hxc;have HD:=Lib.hid (show ¬ D=H+1∧U.heap.size≤D by omega)
 by_cases hz:zeroN X
 ·have HQ:=Lib.hid (QZero_any c X _ wo hv true (by simp [hz]))
  have Hz:=Lib.hid hz
  clear hv hz nD qD hxc hD lZ hX
  go_wp2_with (refine wpList_load_row rfl 38 _ rfl (D) rfl 38 _ (0,0) _ rD Tryz.underlying38 rfl iD ?_)
  refine HQ.out.mono ?_
  rintro r w2 ⟨rfl,hx2⟩
  have rD2:=(hx2.block _ (Array.getElem?_eq_some_iff.1 HrD.out).1).trans HrD.out
  have n2:=HnD.out.ext hx2
  obtain ⟨c1,hr1,hs1,hone,hinf,rr,hzz,hE'⟩:=fin_rm n2.val (HZ0.out.ext (Hxc.out.trans hx2)) (HE0.out.trans (Hxc.out.trans hx2)) (by rw [HH.out];omega)
  have Hend:=Lib.hid (show RmA (w2.setRow (H+1) c) c z (P+E+1) (E+1)∧EqN z (nHf x)∧Ext w (w2.setRow (H+1) c) from
   ⟨⟨n2.anti,n2.low,n2.abs,Nat.le_succ_of_le n2.down,hzz⟩,eq_hf0 Hant.out HqD.out (zero_of_zeroN n2.anti (by rw [HX.out];exact Hz.out)),hE'⟩)
  clear hzz hE' hx2 HQ n2 rD
  go_wp2_with (first
   | refine wpList_load_row rfl 38 _ rfl (D) rfl 38 _ (0,0) _ rD2 Tryz.underlying38 rfl iD ?_
   | refine wpList_store_row rfl 38 _ _ rfl (H+1) c rfl rfl 38 _ hr1 hinf hs1 hone ?_)
  refine bodyPost_ret (v:=.agg c) ?_ rfl ⟨_,_,rfl,Hend.out⟩
  exact results_cell_row rfl _ _ (H+1) _ _ _ _ rfl rr Tryz.underlying38 rfl hinf
 ·have HQ:=Lib.hid (QZero_any c X _ wo hv false (by simp [hz]))
  clear hv hz nD qD hxc hD lZ hX
  go_wp2_with (refine wpList_load_row rfl 38 _ rfl (D) rfl 38 _ (0,0) _ rD Tryz.underlying38 rfl iD ?_)
  refine HQ.out.mono ?_
  rintro r w2 ⟨rfl,hx2⟩
  have rD2:=(hx2.block _ (Array.getElem?_eq_some_iff.1 HrD.out).1).trans HrD.out
  have n2:=HnD.out.ext hx2
  have hV:ZVar w2 D (fun i=>z.a i) (z.e:Int):=⟨c,rD2,n2.val⟩
  have y16:=hV.gete.1;have g16:=hV.gete.2
  obtain ⟨e1,he1⟩:∃ e1:Int,(z.e:Int)+1=e1:=⟨_,rfl⟩
  have wr:IntKind.i64.wrap ((z.e:Int)+1)=e1:=by have:=n2.down;have:=HEE.out;rw [IntKind.wrap_i64];omega
  obtain ⟨hV2,hC2⟩:=hV.sete e1
  obtain ⟨w3,hw3⟩:∃ w3,w2.setCell ⟨D,16,none⟩ (.int .i64 e1)=w3:=⟨_,rfl⟩
  rw [hw3] at hV2 hC2
  have hX3:Ext U w3:=hC2.ext (Hxc.out.trans hx2) HD.out.2
  obtain ⟨c3,r3,z3⟩:=hV2
  rw [←he1,show (z.e:Int)+1=((z.e+1:Nat):Int) by omega] at z3
  have i3:(Tryz.prog.info? 38).map (·.size)=some c3.size:=by rw [z3.1];exact zR_info
  have HQ3:=Lib.hid (Qleast_any c3 _ (z.e+1) w3 z3 (P+E+1) (E+1) HP.out (fun i _=>HnD.out.abs i) (by have:=HnD.out.down;omega) (by have:=HEE.out;omega))
  have HX3:=Lib.hid hX3;have Hw3:=Lib.hid hw3
  clear hX3 hw3 z3 hC2 hV n2 hx2 HQ rD he1
  go_upto_region 5 with fail
  rw [Hw3.out]
  clear Hw3 y16 g16 rD2
  go_wp2_with (refine wpList_load_row rfl 38 _ rfl (D) rfl 38 _ (0,0) _ r3 Tryz.underlying38 rfl i3 ?_)
  refine HQ3.out.mono ?_
  rintro r w4 ⟨cr,y,rfl,hcr,hq4,hx4⟩
  obtain ⟨c1,hr1,hs1,hone,hinf,rr,hzz,hE'⟩:=fin_rm hcr.val (HZ0.out.ext (HX3.out.trans hx4)) (HE0.out.trans (HX3.out.trans hx4)) (by rw [HH.out];omega)
  have Hend:=Lib.hid (show RmA (w4.setRow (H+1) cr) cr y (P+E+1) (E+1)∧EqN y (nHf x)∧Ext w (w4.setRow (H+1) cr) from
   ⟨⟨hcr.anti,hcr.low,hcr.abs,hcr.down,hzz⟩,(hq4.trans (EqN.of_eq (by rw [ext8_of HnD.out.anti]))).trans (eq_hf Hant.out HqD.out),hE'⟩)
  clear hcr hq4 hzz hE' hx4 HQ3 r3 i3
  go_wp2_with (refine wpList_store_row rfl 38 _ _ rfl (H+1) cr rfl rfl 38 _ hr1 hinf hs1 hone ?_)
  refine bodyPost_ret (v:=.agg cr) ?_ rfl ⟨_,_,rfl,Hend.out⟩
  exact results_cell_row rfl _ _ (H+1) _ _ _ _ rfl rr Tryz.underlying38 rfl hinf
theorem QDepth_nm (ca:Array Value) (x:Nm) (P E:Nat) (w:World) (h:RmA w ca x P E) (hP:P+E+2≤400000) (hE:E≤10000) :
  Calls Tryz.prog 20 #[.agg ca] w fun r w'=>r=.returned (.int .i64 (dep x:Nat))∧Ext w w':=by
 obtain ⟨d,hd⟩:∃ d,dep x=d:=⟨_,rfl⟩
 have hdl:=dep_le x
 have hdn:=h.down
 rw [hd] at hdl ⊢
 have Hend:=Lib.hid (show ∀ n,n≤d→((itN x n).e=0↔n=d) from fun n hn=>by rw [←hd];exact itN_end (by rw [hd];exact hn))
 have Hlow:=Lib.hid (show ∀ n,n≤d→Low (itN x n) from fun n hn=>itN_low h.anti h.low (by rw [hd];exact hn))
 have Hstp:=Lib.hid (show ∀ n,n<d→EqN (nSq (itN x n)) (itN x (n+1)) from fun n hn=>itN_step h.anti (by rw [hd];exact hn))
 have Hant:=Lib.hid h.anti;have Habs:=Lib.hid h.abs
 obtain ⟨H,hH⟩:∃ H,w.heap.size=H:=⟨_,rfl⟩
 obtain ⟨U,hU⟩:∃ U,w.alloc (.cells ca 38)=U:=⟨_,rfl⟩
 have E0:Ext w U:=by rw [←hU];exact Ext.alloc _ _
 have hrA:U.heap[H]?=some (.cells ca 38 (0,0)):=by rw [←hU,←hH];exact heap_alloc_new w _
 have Hst:=Lib.hid (show (∃ c,U.heap[H]?=some (.cells c 38 (0,0))∧RmA U c (itN x 0) (P+1) E)∧Ext w U from ⟨⟨ca,hrA,by rw [itN_zero];exact (h.ext E0).le (Nat.le_succ _) (Nat.le_refl _)⟩,E0⟩)
 have HU:=Lib.hid hU;have HH:=Lib.hid hH;have HP:=Lib.hid hP;have HEE:=Lib.hid hE;have Hdl:=Lib.hid (show d≤20000 by omega);have Hdn:=Lib.hid hdn
 clear hU hH E0 hrA h hP hE hd hdl hdn
 go_enter Tryz.func20,Tryz.ntmps20
 go_wp2_with fail
 rw [HU.out,HH.out]
 clear HU
 go_loopg [3] d (fun kk s3 wr=>∃ n:Nat,s3=.int .i64 (n:Int)∧n≤d∧d-n=kk∧(∃ c,wr.heap[H]?=some (.cells c 38 (0,0))∧RmA wr c (itN x n) (P+1) E)∧Ext w wr)
 case atStart=>exact ⟨0,rfl,by omega,by omega,Hst.out⟩
 case round =>
  clear Hst
  obtain ⟨n,rfl,hn,hnk,⟨c,hr,hc⟩,hE⟩:=hrel
  obtain ⟨wo,rfl⟩:∃ wo:World,wo=wr:=⟨_,rfl⟩
  obtain ⟨y,hy⟩:∃ y,itN x n=y:=⟨_,rfl⟩
  rw [hy] at hc
  have hV:ZVar wo H (fun i=>y.a i) (y.e:Int):=⟨c,hr,hc.val⟩
  have y16:=hV.gete.1
  have heq:=Hend.out n hn
  rw [hy] at heq
  have HE:=Lib.hid hE;have Hnk:=Lib.hid hnk;have Hc:=Lib.hid hc;have Hy:=Lib.hid hy
  obtain ⟨ye,hye⟩:∃ ye,y.e=ye:=⟨_,rfl⟩
  rw [hye] at y16 heq
  have hyd:ye≤10000:=by have:=hc.down;have:=HEE.out;omega
  clear hV hE hnk hy hye
  by_cases hnd:n=d
  ·have q1:¬ (0:Int)<(ye:Int):=by have:=heq.2 hnd;omega
   have q2:ye=0:=heq.2 hnd
   have Hnd:=Lib.hid hnd
   clear hnd heq hn hyd hc hr
   subst q2
   go_wp2_with fail
   go_ret
   exact ⟨congrArg (fun b:Nat=>Ending.returned (Value.int .i64 (b:Int))) Hnd.out,HE.out⟩
  have q1:(0:Int)<(ye:Int):=by
   have:ye≠0:=fun e=>hnd (heq.1 e)
   omega
  have q2:0<ye:=by omega
  have wk:IntKind.i64.wrap ((n:Int)+1)=((n+1:Nat):Int):=by have:=Hdl.out;rw [IntKind.wrap_i64];omega
  have Hlt:=Lib.hid (show n<d by omega)
  have lA:=(Array.getElem?_eq_some_iff.1 hr).1
  have hi1:=hc.info
  have HT:=Lib.hid (fun (k:Int) (wx:World) (hx:Ext wo wx)=>QTurn_nm c y (P+1) E k wx (Hc.out.ext hx) (by have:=HP.out;omega))
  clear hnd heq hn hyd hc
  go_upto_region 3 with fail
  clear y16 q1 q2
  have hd0:Ext wo wo.drew:=Below.drew (Ext.refl _)
  refine wp_region_K 5 (fun w'=>w'.heap[H]?=some (.cells c 38 (0,0))) (by kernel_rfl) ?_
  show anyK _ _ _ _ _ _ 6 #[false,false,false,false,false,false] _ _
  have hHeld:wo.drew.heap[H]?=some (.cells c 38 (0,0)):=(hd0.block _ lA).trans hr
  refine anyK_take (i:=0) (v:=.agg c) rfl (by kernel_rfl) (by kernel_rfl) (by kernel_rfl) (N:=6) (by kernel_rfl) (by kernel_rfl) (by kernel_rfl) (fun _ _ _ h=>h) (Or.inl ⟨by rfl,?_⟩) hHeld ?_
  ·intro w hSw
   exact exec_load_row 38 _ rfl (H) rfl 38 _ (0,0) _ hSw Tryz.underlying38 rfl hi1
  show anyK _ _ _ _ _ _ _ _ (Act.put _ (some 7) _) _
  simp only [Act.put,List.setIfInBounds_toArray,List.set_cons_zero,List.set_cons_succ]
  refine anyK_take (i:=2) (v:=.agg c) rfl (by kernel_rfl) (by kernel_rfl) (by kernel_rfl) (N:=6) (by kernel_rfl) (by kernel_rfl) (by kernel_rfl) (fun _ _ _ h=>h) (Or.inl ⟨by rfl,?_⟩) hHeld ?_
  ·intro w hSw
   exact exec_load_row 38 _ rfl (H) rfl 38 _ (0,0) _ hSw Tryz.underlying38 rfl hi1
  show anyK _ _ _ _ _ _ _ _ (Act.put _ (some 9) _) _
  simp only [Act.put,List.setIfInBounds_toArray,List.set_cons_zero,List.set_cons_succ]
  clear hHeld
  refine anyK_one (i:=1) (by kernel_rfl) rfl (fun Kk hKk=>?_)
  go_simp
  (go_at_call 22;refine (HT.out 2 _ hd0).mono ?_;rintro e w1 ⟨c2,rfl,n2,hxx⟩)
  have he1:=hd0.trans hxx
  go_wp2_with fail
  refine hKk.out _ _ (fun _=>(he1.block _ lA).trans hr) ?_
  clear hKk Kk hxx
  simp only [List.setIfInBounds_toArray,List.set_cons_zero,List.set_cons_succ]
  refine anyK_one (i:=3) (by kernel_rfl) rfl (fun Kk hKk=>?_)
  go_simp
  (go_at_call 22;refine (HT.out 6 _ he1).mono ?_;rintro e w2 ⟨c6,rfl,n6,hxx⟩)
  have he2:=he1.trans hxx
  have n2':=n2.ext hxx
  go_wp2_with fail
  refine hKk.out _ _ (fun _=>(he2.block _ lA).trans hr) ?_
  clear hKk Kk hxx n2
  simp only [List.setIfInBounds_toArray,List.set_cons_zero,List.set_cons_succ]
  refine anyK_one (i:=4) (by kernel_rfl) rfl (fun Kk hKk=>?_)
  go_simp
  (go_at_call 32;refine (QSub_nm c2 c6 (nTr 2 y) (nTr 6 y) (P+1) E w2 n2' n6 (by have:=HP.out;omega) HEE.out).mono ?_;rintro e w3 ⟨cr,z,rfl,hcr,hq,hxx⟩)
  have he3:=he2.trans hxx
  go_wp2_with fail
  refine hKk.out _ _ (fun _=>(he3.block _ lA).trans hr) ?_
  clear hKk Kk hxx n2' n6
  simp only [List.setIfInBounds_toArray,List.set_cons_zero,List.set_cons_succ]
  have hz:z=itN x (n+1):=low_one hcr.low (Hlow.out (n+1) Hlt.out) ((hq.trans (n_sq y)).trans (by rw [←Hy.out];exact Hstp.out n Hlt.out))
  subst hz
  have hr3:=(he3.block _ lA).trans hr
  have hs1:c.size=cr.size:=by rw [Hc.out.size,hcr.size]
  have hone:=hcr.val.one
  have hinf:=hcr.info
  obtain ⟨_,_,rr,hzz⟩:=hcr.val.setRow (g:=H) ⟨c,hr3,(Hc.out.ext he3).val⟩
  have HE':=Lib.hid (ext_setRowQ (HE.out.trans he3) (g:=H) (by rw [HH.out];exact Nat.le_refl _) cr)
  have Hn:=Lib.hid (show RmA (w3.setRow H cr) cr (itN x (n+1)) (P+1) E from ⟨hcr.anti,hcr.low,fun k=>itN_abs Habs.out (n+1) k,Nat.le_trans (itN_down x (n+1)) Hdn.out,hzz⟩)
  have Hrr:=Lib.hid rr
  clear hcr hq hzz rr HT he1 he2
  refine anyK_one (i:=5) (by kernel_rfl) rfl (fun Kk hKk=>?_)
  refine stepK_storeR rfl rfl 38 _ _ rfl (H) cr rfl rfl 38 _ hr3 hinf hs1 hone ?_
  refine hKk.out _ _ (fun h=>Bool.noConfusion (show true=false from h)) ?_
  clear hKk Kk
  simp only [List.setIfInBounds_toArray,List.set_cons_zero,List.set_cons_succ]
  refine anyK_done (by kernel_rfl) ?_ _
  clear he3 hr3 hs1 hone hinf hr hi1 lA hd0
  generalize w3.setRow H cr=W9 at *
  go_wp2_with fail
  go_roundg (d-(n+1))
  case measure=>have:=Hnk.out;have:=Hlt.out;omega
  case rel=>exact ⟨n+1,rfl,Hlt.out,rfl,⟨cr,Hrr.out,Hn.out⟩,HE'.out⟩
theorem Bx.sg {sg z s:Int} (hsg:cmp3 s 0=sg) (hc:cmp3 s 0=cmp3 z 0) (hz:z≠0):(sg == 0)=false:=by
 rw [beq_eq_false_iff_ne,←hsg,hc]
 unfold cmp3
 split
 ·decide
 ·split
  ·decide
  ·omega
theorem Gcd_any (s1 s2:Int) (a1 a2:Option Addr) (n1 c1 n2 c2:Nat) (z1 z2:Int) (w:World) (h1:IsInt w s1 a1 n1 c1 z1) (h2:IsInt w s2 a2 n2 c2 z2) (K:Nat) (hK:K≤4194304) (hK1:1≤K) (hf1:Fit K z1) (hf2:Fit K z2) (hz1:z1≠0) (hz2:z2≠0) (hbr:Bru w) :
  Calls Tryz.prog 121 #[.agg #[.int .i64 s1,.slice a1 n1 c1],.agg #[.int .i64 s2,.slice a2 n2 c2]] w fun e w'=>∃ (s':Int) (a':Option Addr) (n' c':Nat),e=.returned (.agg #[.int .i64 s',.slice a' n' c'])∧IsInt w' s' a' n' c' (Nat.gcd z1.natAbs z2.natAbs:Nat)∧Ext w w':=by
 have hn1:=h1.len hf1;have hn2:=h2.len hf2
 have Hf1:=hid hf1;have Hf2:=hid hf2;have H1:=hid h1;have H2:=hid h2;have Hz1:=hid hz1;have Hz2:=hid hz2;have Hbr:=hid hbr
 have Hs1:=hid (Sign_any s1 (.slice a1 n1 c1));have Hs2:=hid (Sign_any s2 (.slice a2 n2 c2))
 obtain ⟨g1,hg1⟩:∃ g,cmp3 s1 0=g:=⟨_,rfl⟩
 obtain ⟨g2,hg2⟩:∃ g,cmp3 s2 0=g:=⟨_,rfl⟩
 have hb1:=Bx.sg hg1 h1.cmp3 hz1;have hb2:=Bx.sg hg2 h2.cmp3 hz2
 rw [hg1] at Hs1;rw [hg2] at Hs2
 clear hf1 hf2 h1 h2 hz1 hz2 hg1 hg2 hbr
 have hbx:=boxes2 w (.int .i64 s1) (.slice a1 n1 c1) (.int .i64 s2) (.slice a2 n2 c2)
 have bxA:=((box_new w s1 a1 n1 c1).ext (Ext.alloc _ (.cells #[.int .i64 s2,.slice a2 n2 c2] 24))).ext (Ext.alloc _ (.cells #[.int .i64 0,.slice none 0 0] 24))
 have bxB:=(box_new (w.alloc (.cells #[.int .i64 s1,.slice a1 n1 c1] 24)) s2 a2 n2 c2).ext (Ext.alloc _ (.cells #[.int .i64 0,.slice none 0 0] 24))
 rw [show (w.alloc (.cells #[.int .i64 s1,.slice a1 n1 c1] 24)).heap.size=w.heap.size+1 from by simp] at bxB
 go_enter Tryz.func121,Tryz.ntmps121
 go_wp2_with fail
 generalize ((w.alloc (.cells #[.int .i64 s1,.slice a1 n1 c1] 24)).alloc (.cells #[.int .i64 s2,.slice a2 n2 c2] 24)).alloc (.cells #[.int .i64 0,.slice none 0 0] 24)=W0 at *
 refine (Hs1.out _).mono ?_
 rintro e wd ⟨rfl,hxd⟩
 obtain ⟨x0,x1,x2,x3⟩:=keep4' hxd hbx
 go_wp2_with fail
 refine (Hs2.out _).mono ?_
 rintro e we ⟨rfl,hxe'⟩
 have hxe:=hxd.trans hxe'
 obtain ⟨y0,y1,y2,y3⟩:=keep4' hxe hbx
 have hBe:w.heap.size+2<we.heap.size:=by have:=hbx.size;have:=hxe.size;omega
 have HEe:Hid (Ext w we):=hbx.ext.trans hxe
 have Ht1:=hid (Twos_from (H1.out.ext HEe.out) (by omega) Hz1.out (bru_ext Hbr.out HEe.out));have Ht2:=hid (Twos_from (H2.out.ext HEe.out) (by omega) Hz2.out (bru_ext Hbr.out HEe.out))
 have hed:Ext we we.drew:=Below.drew (Ext.refl _)
 clear x0 x1 x2 x3
 go_wp2_with fail
 go_region_held3 (fun w'=>w'.cell? ⟨w.heap.size,0,none⟩=some (.int .i64 s1)∧w'.cell? ⟨w.heap.size,1,none⟩=some (.slice a1 n1 c1)∧w'.cell? ⟨w.heap.size+1,0,none⟩=some (.int .i64 s2)∧w'.cell? ⟨w.heap.size+1,1,none⟩=some (.slice a2 n2 c2)) (exact keep4 (by assumption) (by omega) y0 y1 y2 y3)
  (first | (go_at_call_of 133 s1;refine (Ht1.out _ (by assumption)).mono ?_;rintro e wa ⟨t1,rfl,Htw1,htl1,hea,hxa⟩) | (go_at_call_of 133 s2;refine (Ht2.out _ (by assumption)).mono ?_;rintro e wb ⟨t2,rfl,Htw2,htl2,heb,hxb⟩))
 obtain ⟨u0,u1,u2,u3⟩:=keep4 heb (by omega) y0 y1 y2 y3
 have hBb:w.heap.size+2<wb.heap.size:=by have:=heb.size;omega
 have HEb:Hid (Ext w wb):=HEe.out.trans heb
 have rb:=hbx.res.ext (hxe.trans heb);have bA:=bxA.ext (hxe.trans heb);have bB:=bxB.ext (hxe.trans heb)
 have Hh1:=hid (halve_from (H1.out.ext HEb.out) t1 (by omega) K hK hK1 Hf1.out (bru_ext Hbr.out HEb.out));have Hh2:=hid (halve_from (H2.out.ext HEb.out) t2 (by omega) K hK hK1 Hf2.out (bru_ext Hbr.out HEb.out))
 have hbd:Ext wb wb.drew:=Below.drew (Ext.refl _)
 clear y0 y1 y2 y3 hea hxa heb hxb hed hxe hxe' hxd
 go_wp2_with fail
 have ew1:IntKind.u64.wrap (t1:Int)=(t1:Int):=by rw [IntKind.wrap_u64];omega
 have ew2:IntKind.u64.wrap (t2:Int)=(t2:Int):=by rw [IntKind.wrap_u64];omega
 rw [ew1,ew2]
 clear ew1 ew2
 go_region_with (first | (go_at_call_of 123 s1;refine (Hh1.out _ (by assumption)).mono ?_;rintro e w5 ⟨s5,a5,n5,c5,rfl,hI5,he5,hx5⟩;have v2:=cellKeep he5 (by omega) u2;have v3:=cellKeep he5 (by omega) u3) | (go_at_call_of 123 s2;refine (Hh2.out _ (by assumption)).mono ?_;rintro e w6 ⟨s6,a6,n6,c6,rfl,hI6,he6,hx6⟩;have bA6:=bA.ext he6;have bB6:=bB.ext he6;have k0:=bA6.c0;have k1:=bA6.c1;have g0:=bA6.f0;have g1:=bA6.f1;have k2:=bB6.c0;have k3:=bB6.c1;have g2:=bB6.f0;have g3:=bB6.f1))
 all_goals
  have rb6:=(rb.ext he6).box
  have hkk:=Keep64.set4 (w:=w6) (.i64 k0) (.slice k1) (.i64 k2) (.slice k3) (notW_i64 s5) (notW_slice a5 n5 c5) (notW_i64 s6) (.slice a6 n6 c6)
  have bA7:=((bA6.own s5 a5 n5 c5).put (h:=w.heap.size+1) (o:=0) (by omega) (.int .i64 s6)).put (h:=w.heap.size+1) (o:=1) (by omega) (.slice a6 n6 c6)
  have bB7:=((bB6.put (h:=w.heap.size) (o:=0) (by omega) (.int .i64 s5)).put (h:=w.heap.size) (o:=1) (by omega) (.slice a5 n5 c5)).own s6 a6 n6 c6
  have bR7:=(((rb6.put (h:=w.heap.size) (o:=0) (by omega) (.int .i64 s5)).put (h:=w.heap.size) (o:=1) (by omega) (.slice a5 n5 c5)).put (h:=w.heap.size+1) (o:=0) (by omega) (.int .i64 s6)).put (h:=w.heap.size+1) (o:=1) (by omega) (.slice a6 n6 c6)
  have I5:=(hI5.ext hx6).keep64 hkk
  have I6:=hI6.keep64 hkk
  have E7:=((HEb.out.trans he6).put2 (g:=w.heap.size) (o:=0) (o':=1) (by omega) (.int .i64 s5) (.slice a5 n5 c5)).put2 (g:=w.heap.size+1) (o:=0) (o':=1) (by omega) (.int .i64 s6) (.slice a6 n6 c6)
  have HG:Hid (Nat.gcd z1.natAbs z2.natAbs=2 ^ (min t1 t2)*Nat.gcd (z1 / 2 ^ t1).natAbs (z2 / 2 ^ t2).natAbs):=by
   show _=_
   rw [halve_abs Htw1.out,halve_abs Htw2.out]
   exact gcd_twos Htw1.out Htw2.out
  have Hfa:Hid (Fit K (z1 / 2 ^ t1)):=Hf1.out.le (by rw [halve_abs Htw1.out];exact Nat.div_le_self _ _)
  have Hfb:Hid (Fit K (z2 / 2 ^ t2)):=Hf2.out.le (by rw [halve_abs Htw2.out];exact Nat.div_le_self _ _)
  generalize (((w6.setCell ⟨w.heap.size,0,none⟩ (.int .i64 s5)).setCell ⟨w.heap.size,1,none⟩ (.slice a5 n5 c5)).setCell ⟨w.heap.size+1,0,none⟩ (.int .i64 s6)).setCell ⟨w.heap.size+1,1,none⟩ (.slice a6 n6 c6)=W7 at *
  clear hkk k0 k1 k2 k3 g0 g1 g2 g3 bA6 bB6 rb6 rb bA bB u0 u1 u2 u3 hI5 hI6 he5 he6 hx5 hx6 hbd
  obtain ⟨G,hG⟩:∃ G,Nat.gcd (z1 / 2 ^ t1).natAbs (z2 / 2 ^ t2).natAbs=G:=⟨_,rfl⟩
  rw [hG] at HG
  have HG':=hid hG
  clear hG
  go_wp2_with fail
  go_loopw [8] (fun _ wr=>∃ (sA:Int) (aA:Option Addr) (nA cA:Nat) (zA sB:Int) (aB:Option Addr) (nB cB:Nat) (zB:Int),Box wr w.heap.size sA aA nA cA∧Box wr (w.heap.size+1) sB aB nB cB∧Box wr (w.heap.size+1+1) 0 none 0 0∧IsInt wr sA aA nA cA zA∧IsInt wr sB aB nB cB zB∧Fit K zA∧Fit K zB∧Nat.gcd zA.natAbs zB.natAbs=G∧Ext w wr) (fun _ wr=>boxAbs wr (w.heap.size+1))
  case atStart=>exact ⟨s5,a5,n5,c5,_,s6,a6,n6,c6,_,bA7,bB7,bR7,I5,I6,Hfa.out,Hfb.out,HG'.out,E7⟩
  case round =>
   clear bA7 bB7 bR7 I5 I6 E7
   obtain ⟨sA,aA,nA,cA,zA,sB,aB,nB,cB,zB,bA,bB,bR,IA,IB,fA,fB,hgc,hEr⟩:=hrel
   have HIA:=hid IA;have HIB:=hid IB;have HfA:=hid fA;have HfB:=hid fB;have Hgc:=hid hgc
   have Hm:Hid (boxAbs wr (w.heap.size+1)=zB.natAbs):=boxAbs_eq bB.c0 bB.c1 IB
   have Hs:=hid (Sign_any sB (.slice aB nB cB))
   have hcB:=IB.cmp3
   obtain ⟨g,hg⟩:∃ g,cmp3 sB 0=g:=⟨_,rfl⟩
   rw [hg] at Hs
   have k0:=bA.c0;have k1:=bA.c1;have k2:=bB.c0;have k3:=bB.c1
   by_cases hzB:zB=0
   ·have hg0:g=0:=by rw [←hg,hcB,hzB];decide
    subst hg0
    have Hfin:Hid (zA.natAbs=G):=by
     show _=_
     have:=Hgc.out
     rw [hzB] at this
     simpa using this
    clear IA IB fA fB hgc hcB hg hzB
    go_wp2_with fail
    refine (Hs.out _).mono ?_
    rintro e we ⟨rfl,hxe⟩
    have x0:=cellKeep hxe bA.lt k0;have x1:=cellKeep hxe bA.lt k1
    go_wp2_with fail
    refine (withoutSign_any sA aA nA cA zA we (HIA.out.ext hxe)).mono ?_
    rintro e wf ⟨s8,a8,n8,c8,rfl,hI8,hxf⟩
    go_wp2_with fail
    have em:min (t1:Int) (t2:Int)=((min t1 t2:Nat):Int):=by omega
    rw [em]
    refine (double_any s8 a8 n8 c8 _ (min t1 t2) wf hI8 (by omega) K hK (HfA.out.le (by simp))).mono ?_
    rintro e wg ⟨s9,a9,n9,c9,rfl,hI9,hxg⟩
    have hr9:=bR.ext (hxe.trans (hxf.trans hxg))
    have j0:=hr9.c0;have j1:=hr9.c1;have f0:=hr9.f0;have f1:=hr9.f1
    have Hc:((zA.natAbs:Nat):Int)*2 ^ min t1 t2=((Nat.gcd z1.natAbs z2.natAbs:Nat):Int):=by
     rw [HG.out,Hfin.out,Nat.mul_comm]
     simp
    have HC:=hid Hc
    have HE9:Hid (Ext w wg):=hEr.trans (hxe.trans (hxf.trans hxg))
    clear em Hc x0 x1 k0 k1 k2 k3
    go_wp2_with fail
    exact bodyPost_ret (v:=.agg #[.int .i64 s9,.slice a9 n9 c9]) (by simp [results,Tryz.results121,go_sem,j0,j1]) rfl ⟨s9,a9,n9,c9,rfl,(hI9.cast HC.out).keep64 (Keep64.set2 (.i64 j0) (.slice j1) (notW_i64 _) _),HE9.out.put2 (by omega) _ _⟩
   ·have hbn:(g != 0)=true:=by
     have:=Bx.sg hg hcB hzB
     rw [bne,this];rfl
    have HzB:=hid hzB
    have Hdt:=hid (fun wx (hx:Ext wr wx)=>divTowards_any sA sB aA aB nA cA nB cB zA zB wx (HIA.out.ext hx) (HIB.out.ext hx) K hK HfA.out HfB.out HzB.out)
    clear IA IB fA fB hgc hcB hg hzB
    go_wp2_with fail
    refine (Hs.out _).mono ?_
    rintro e we ⟨rfl,hxe⟩
    have x0:=cellKeep hxe bA.lt k0;have x1:=cellKeep hxe bA.lt k1;have x2:=cellKeep hxe bB.lt k2;have x3:=cellKeep hxe bB.lt k3
    clear k0 k1 k2 k3
    go_wp2_with fail
    refine (Hdt.out _ hxe).mono ?_
    rintro e wf ⟨s3,a3,n3,c3,s4,a4,n4,c4,rfl,hI3,hI4,hxf⟩
    have hE1:=Ext.alloc wf (.cells #[.int .i64 s3,.slice a3 n3 c3] 24)
    have hE2:=Ext.alloc (wf.alloc (.cells #[.int .i64 s3,.slice a3 n3 c3] 24)) (.cells #[.int .i64 s4,.slice a4 n4 c4] 24)
    have b4:=box_new (wf.alloc (.cells #[.int .i64 s3,.slice a3 n3 c3] 24)) s4 a4 n4 c4
    rw [show (wf.alloc (.cells #[.int .i64 s3,.slice a3 n3 c3] 24)).heap.size=wf.heap.size+1 from by simp] at b4
    have hE3:=(hxe.trans hxf).trans (hE1.trans hE2)
    have I4:=hI4.ext (hE1.trans hE2)
    have hw3:w.heap.size+2<wf.heap.size:=by have:=bR.lt;have:=hxe.size;have:=hxf.size;omega
    clear x0 x1 x2 x3
    go_wp2_with fail
    generalize (wf.alloc (.cells #[.int .i64 s3,.slice a3 n3 c3] 24)).alloc (.cells #[.int .i64 s4,.slice a4 n4 c4] 24)=W8 at *
    have bA8:=bA.ext hE3;have bB8:=bB.ext hE3;have bR8:=bR.ext hE3
    have k0:=bA8.c0;have k1:=bA8.c1;have g0:=bA8.f0;have g1:=bA8.f1;have k2:=bB8.c0;have k3:=bB8.c1;have g2:=bB8.f0;have g3:=bB8.f1;have j0:=b4.c0;have j1:=b4.c1
    have hkk:=Keep64.set4 (w:=W8) (.i64 k0) (.slice k1) (.i64 k2) (.slice k3) (notW_i64 sB) (notW_slice aB nB cB) (notW_i64 s4) (.slice a4 n4 c4)
    have bA9:=((bA8.own sB aB nB cB).put (h:=w.heap.size+1) (o:=0) (by omega) (.int .i64 s4)).put (h:=w.heap.size+1) (o:=1) (by omega) (.slice a4 n4 c4)
    have bB9:=((bB8.put (h:=w.heap.size) (o:=0) (by omega) (.int .i64 sB)).put (h:=w.heap.size) (o:=1) (by omega) (.slice aB nB cB)).own s4 a4 n4 c4
    have bR9:=(((bR8.put (h:=w.heap.size) (o:=0) (by omega) (.int .i64 sB)).put (h:=w.heap.size) (o:=1) (by omega) (.slice aB nB cB)).put (h:=w.heap.size+1) (o:=0) (by omega) (.int .i64 s4)).put (h:=w.heap.size+1) (o:=1) (by omega) (.slice a4 n4 c4)
    have IB9:=(HIB.out.ext hE3).keep64 hkk
    have I49:=I4.keep64 hkk
    have E9:=((hEr.trans hE3).put2 (g:=w.heap.size) (o:=0) (o':=1) (by omega) (.int .i64 sB) (.slice aB nB cB)).put2 (g:=w.heap.size+1) (o:=0) (o':=1) (by omega) (.int .i64 s4) (.slice a4 n4 c4)
    have HbA9:=hid bA9;have HbB9:=hid bB9;have HbR9:=hid bR9;have HIB9:=hid IB9;have HI49:=hid I49;have HE9:=hid E9
    clear bA9 bB9 bR9 IB9 I49 E9 hkk bA bB bR bA8 bB8 bR8 b4
    go_region
    go_wp2_with fail
    have hdr:∀ X:World,Ext X X.drew:=fun X=>Below.drew (Ext.refl _)
    go_roundw
    case rel=>exact ⟨sB,aB,nB,cB,zB,s4,a4,n4,c4,_,HbA9.out.ext (hdr _),HbB9.out.ext (hdr _),HbR9.out.ext (hdr _),HIB9.out.ext (hdr _),HI49.out.ext (hdr _),HfB.out,HfB.out.le (by rw [Int.natAbs_tmod];exact Nat.le_of_lt (Nat.mod_lt _ (by have:=HzB.out;omega))),(gcd_step zA zB HzB.out).trans Hgc.out,HE9.out.trans (hdr _)⟩
    case measure =>
     rw [Hm.out,boxAbs_eq (HbB9.out.ext (hdr _)).c0 (HbB9.out.ext (hdr _)).c1 (HI49.out.ext (hdr _)),Int.natAbs_tmod]
     exact Nat.mod_lt _ (by have:=HzB.out;omega)
structure QRes (W:World) (g:Nat):Prop where
 row:W.heap[g]?=some (.cells #[.int .i64 0,.slice none 0 0,.int .i64 0,.slice none 0 0] 45 (0,0))
theorem QRes.lt {W:World} {g:Nat} (h:QRes W g):g<W.heap.size:=(Array.getElem?_eq_some_iff.1 h.row).1
theorem QRes.ext {W W':World} {g:Nat} (h:QRes W g) (k:Ext W W'):QRes W' g:=⟨(k.block _ h.lt).trans h.row⟩
theorem QRes.put {W:World} {g h o:Nat} (hb:QRes W g) (hne:g≠h) (u:Value):QRes (W.setCell ⟨h,o,none⟩ u) g:=⟨(Below.heap_setCell _ _ _ _ hne).trans hb.row⟩
theorem QRes.c0 {W:World} {g:Nat} (h:QRes W g):W.cell? ⟨g,0,none⟩=some (.int .i64 0):=by rw [cell_of_row W g 0 _ _ (0,0) h.row];rfl
theorem QRes.c1 {W:World} {g:Nat} (h:QRes W g):W.cell? ⟨g,1,none⟩=some (.slice none 0 0):=by rw [cell_of_row W g 1 _ _ (0,0) h.row];rfl
theorem QRes.c2 {W:World} {g:Nat} (h:QRes W g):W.cell? ⟨g,2,none⟩=some (.int .i64 0):=by rw [cell_of_row W g 2 _ _ (0,0) h.row];rfl
theorem QRes.c3 {W:World} {g:Nat} (h:QRes W g):W.cell? ⟨g,3,none⟩=some (.slice none 0 0):=by rw [cell_of_row W g 3 _ _ (0,0) h.row];rfl
theorem QRes.f0 {W:World} {g:Nat} (h:QRes W g) (o:Nat):W.frozen? ⟨g,o,none⟩=false:=frozen_of_row W g o _ _ h.row
structure IsLow (z1 z2 p q:Int):Prop where
 pos:0<q
 co:Nat.gcd p.natAbs q.natAbs=1
 eq:p*z2=q*z1
 le1:p.natAbs≤z1.natAbs
 le2:q.natAbs≤z2.natAbs
 ne:p≠0
theorem IsLow.neg {z1 z2 p q:Int} (h:IsLow (-z1) (-z2) p q):IsLow z1 z2 p q:=by
 obtain ⟨h1,h2,h3,h4,h5,h6⟩:=h
 refine ⟨h1,h2,?_,by omega,by omega,h6⟩
 rw [Int.mul_neg,Int.mul_neg] at h3
 omega
theorem IsDiv.exact {a q r:Int} {g:Nat} (hd:g ∣ a.natAbs) (h:IsDiv a (g:Int) q r):a=q*(g:Int):=by
 obtain ⟨h1,h2,h3,_⟩:=h
 have h4:(g:Int) ∣ a:=Int.ofNat_dvd_left.2 hd
 have h5:(g:Int) ∣ r:=by
  have:r=a-q*(g:Int):=by omega
  rw [this]
  exact Int.dvd_sub h4 (Int.dvd_mul_left _ _)
 have h6:r=0:=by
  have h7:=Int.emod_eq_zero_of_dvd h5
  rw [Int.emod_eq_of_lt h2 (by simpa using h3)] at h7
  exact h7
 omega
theorem isLow_one {z1 z2:Int} (h0:z1≠0) (h:0<z2) (hg:Nat.gcd z1.natAbs z2.natAbs=1):IsLow z1 z2 z1 z2 :=
 ⟨h,hg,Int.mul_comm _ _,Nat.le_refl _,Nat.le_refl _,h0⟩
theorem isLow_div {z1 z2 p q r r':Int} (h0:z1≠0) (h:0<z2) (h1:IsDiv z1 (Nat.gcd z1.natAbs z2.natAbs:Nat) p r) (h2:IsDiv z2 (Nat.gcd z1.natAbs z2.natAbs:Nat) q r'):IsLow z1 z2 p q:=by
 have hgp:0<Nat.gcd z1.natAbs z2.natAbs:=Nat.gcd_pos_of_pos_left _ (by omega)
 have e1:=h1.exact (Nat.gcd_dvd_left _ _)
 have e2:=h2.exact (Nat.gcd_dvd_right _ _)
 have l1:=h1.le;have l2:=h2.le
 have hco:=Nat.gcd_div (Nat.gcd_dvd_left z1.natAbs z2.natAbs) (Nat.gcd_dvd_right z1.natAbs z2.natAbs)
 rw [Nat.div_self hgp] at hco
 have n1:z1.natAbs=p.natAbs*Nat.gcd z1.natAbs z2.natAbs:=by
  conv=>lhs;rw [e1]
  rw [Int.natAbs_mul,Int.natAbs_natCast]
 have n2:z2.natAbs=q.natAbs*Nat.gcd z1.natAbs z2.natAbs:=by
  conv=>lhs;rw [e2]
  rw [Int.natAbs_mul,Int.natAbs_natCast]
 have d1:z1.natAbs / Nat.gcd z1.natAbs z2.natAbs=p.natAbs:=by
  conv=>lhs;lhs;rw [n1]
  exact Nat.mul_div_cancel _ hgp
 have d2:z2.natAbs / Nat.gcd z1.natAbs z2.natAbs=q.natAbs:=by
  conv=>lhs;lhs;rw [n2]
  exact Nat.mul_div_cancel _ hgp
 rw [d1,d2] at hco
 generalize Nat.gcd z1.natAbs z2.natAbs=g at *
 refine ⟨?_,hco,?_,l1,l2,?_⟩
 ·apply Decidable.byContradiction
  intro hq
  have:q*(g:Int)≤0:=Int.mul_nonpos_of_nonpos_of_nonneg (by omega) (by omega)
  omega
 ·rw [e1,e2]
  rw [←Int.mul_assoc,←Int.mul_assoc,Int.mul_comm p q]
 ·intro hp
  rw [hp,Int.zero_mul] at e1
  exact h0 e1
end Go.Proofs.YtiicfpdiehgikaaGreatDoor
