/-
  A region that draws its order, calls one function behind the other, and makes variables that wait for nothing: each may be made ahead of, between or behind the calls. What is asked of a step is asked once, in every world that extends the one at hand, whatever has been made. The program: the chance of errors of which there are so many of each weight. How many errors there are. Fractions of the program: Sub, Text.
-/
import Derived.OrdersHeld
import Derived.ProofKit
import Derived.RegionTactic
import Derived.Test.YtjfomkoedgipjaaGreatDoorS22Qw
namespace Go.Proofs.YtjfomkoedgipjaaGreatDoor
set_option maxRecDepth 100000
set_option maxHeartbeats 8000000
open Go.RowKit
structure Fl where
 j:Nat
 d:Nat
 ty:TypeId
 z:Array Value
def dnA (N:Nat) (D:List Nat):Array Bool:=((List.range N).map fun i=>D.contains i).toArray
def fbA (B:Array Value) (L:List (Nat × Value)):Act:=⟨L.foldr (fun p a=>a.setIfInBounds p.1 p.2) B,[]⟩
theorem dnA_set (N j:Nat) (D:List Nat):(dnA N D).setIfInBounds j true=dnA N (j :: D):=by
 apply Array.ext_getElem?
 intro i;unfold dnA;rw [List.setIfInBounds_toArray,List.getElem?_toArray,List.getElem?_toArray,List.getElem?_set,jM,jM]
 by_cases hN:i<N
 ·rw [List.getElem?_range hN]
  by_cases h:j=i
  ·subst h;simp [hN]
  ·rw [qE h]
   have h':¬ i=j:=fun e=>h e.symm
   simp [h']
 ·rw [jT (by simpa using hN)]
  simp only [Option.map_none,jY,List.length_range]
  split
  ·rw [qE (by omega)]
  ·rfl
theorem dnA_congr (N:Nat) {D E:List Nat} (h:∀ i,i ∈ D↔i ∈ E):dnA N D=dnA N E:=by
 unfold dnA
 congr 1
 refine List.map_congr_left fun i _=>?_
 rw [Bool.eq_iff_iff,List.contains_iff_mem,List.contains_iff_mem,h]
def subsA:List Fl->List (List Fl)
 | []=>[[]]
 | f :: r=>subsA r++(subsA r).map (f :: ·)
theorem subsA_filter (p:Fl->Bool):∀ fs:List Fl,fs.filter p ∈ subsA fs
 | []=>by simp [subsA]
 | f :: r=>by
  have h:=subsA_filter p r;unfold subsA;rw [List.filter_cons]
  split
  ·exact List.mem_append_right _ (yU.2 ⟨_,h,rfl⟩)
  ·exact List.mem_append_left _ h
def chkC (md:Region.Mode) (ops:Array Oper) (fs:List Fl) (N:Nat) (D:List Nat) (i:Option Nat):Bool :=
 (subsA fs).all fun s=>let r:=Region.ready md ops (dnA N (s.map Fl.j++D));(i.isNone && s.length == fs.length) || (!r.isEmpty && r.all fun k=>decide (i=some k) || fs.any fun f=>k == f.j && !(s.map Fl.j).contains k)
def chkT (md:Region.Mode) (ops:Array Oper) (fs:List Fl) (N:Nat) (D:List Nat) (i:Nat):Bool :=
 (subsA fs).all fun s=>Region.free md ops (dnA N (s.map Fl.j++D)) i && (Region.ready md ops (dnA N (s.map Fl.j++D))).contains i
def NewA (W0 w:World) (f:Fl) (G:Nat):Prop:=W0.heap.size<=G/\w.heap[G]?=some (.cells f.z f.ty (0,0))
theorem NewA.ext {W0 w w':World} {f:Fl} {G:Nat} (h:NewA W0 w f G) (k:Ext w w'):NewA W0 w' f G:=⟨h.1,(k.block _ (gS.1 h.2).1).trans h.2⟩
theorem NewA.lt {W0 w:World} {f:Fl} {G:Nat} (h:NewA W0 w f G):G<w.heap.size:=(gS.1 h.2).1
abbrev ptrA (G:Nat):Value:=.pointer (some ⟨G,0,none⟩)
theorem extA (w:World) (o:Obj):Ext w (w.alloc o):=(Below.refl _ _).alloc (qZ _) o
structure OkA (W0 w:World) (fs:List Fl) (st:Nat->Option Nat):Prop where
 new:∀ f ∈ fs,∀ G,st f.d=some G->NewA W0 w f G
 ne:∀ f ∈ fs,∀ g ∈ fs,f.d≠g.d->∀ G K,st f.d=some G->st g.d=some K->G≠K
theorem OkA.ext {W0 w w':World} {fs:List Fl} {st:Nat->Option Nat} (h:OkA W0 w fs st) (k:Ext w w'):OkA W0 w' fs st:=⟨fun f hf G e=>(h.new f hf G e).ext k,h.ne⟩
def valA (B:Array Value) (st:Nat->Option Nat) (d:Nat):Value:=match st d with
 | none=>B.getD d undef
 | some G=>ptrA G
def doneA (fs:List Fl) (st:Nat->Option Nat):List Fl:=fs.filter fun f=>(st f.d).isSome
def leftA (fs:List Fl) (st:Nat->Option Nat):Nat:=(fs.filter fun f=>(st f.d).isNone).length
def frA (fs:List Fl) (B:Array Value) (L:List (Nat × Value)) (T:Nat->Value):Act:=fbA B (fs.map (fun f=>(f.d,T f.d))++L)
theorem foldA_size (B:Array Value):∀ L:List (Nat × Value),(L.foldr (fun p a=>a.setIfInBounds p.1 p.2) B).size=B.size
 | []=>rfl
 | p :: r=>by rw [List.foldr_cons,Array.size_setIfInBounds,foldA_size B r]
theorem frA_get (fs:List Fl) (B:Array Value) (L:List (Nat × Value)) (T:Nat->Value) (i:Nat):(frA fs B L T).tmps[i]?=if fs.any (fun f=>f.d == i) then (if i<B.size then some (T i) else none) else (fbA B L).tmps[i]?:=by
 unfold frA fbA
 induction fs with
 | nil=>rfl
 | cons g r ih =>
  simp only [yW,List.cons_append,List.foldr_cons,List.any_cons,Array.getElem?_setIfInBounds,foldA_size] at ih ⊢
  by_cases h:g.d=i
  ·simp [h]
  ·rw [qE h,ih]
   simp [h]
theorem frA_put {fs:List Fl} {f:Fl} (hf:f ∈ fs) (B:Array Value) (L:List (Nat × Value)) (T:Nat->Value) (G:Nat):(frA fs B L T).put (some f.d) (ptrA G)=frA fs B L (fun e=>if e=f.d then ptrA G else T e):=by
 have e:((frA fs B L T).put (some f.d) (ptrA G)).tmps=(frA fs B L (fun e=>if e=f.d then ptrA G else T e)).tmps:=by
  apply Array.ext_getElem?
  intro i
  show ((frA fs B L T).tmps.setIfInBounds f.d (ptrA G))[i]?=_
  have hs:(frA fs B L T).tmps.size=B.size:=foldA_size B _;rw [Array.getElem?_setIfInBounds,hs,frA_get,frA_get]
  by_cases h:f.d=i
  ·have ha:fs.any (fun g=>g.d == i)=true:=List.any_eq_true.2 ⟨f,hf,by rw [h];exact beq_self_eq_true _⟩
   rw [qU h,qU ha,qU h.symm,h]
  ·have h':¬ i=f.d:=fun e=>h e.symm
   rw [qE h,qE h']
 have e2:∀ a b:Act,a.tmps=b.tmps->a.defers=b.defers->a=b:=fun a b h1 h2=>by cases a;cases b;cases h1;cases h2;rfl
 exact e2 _ _ e rfl
def updA (st:Nat->Option Nat) (d G:Nat):Nat->Option Nat:=fun e=>if e=d then some G else st e
theorem valA_upd (B:Array Value) (st:Nat->Option Nat) (d G:Nat):valA B (updA st d G)=fun e=>if e=d then ptrA G else valA B st e:=by
 funext e
 unfold valA updA
 by_cases h:e=d
 ·rw [qU h,qU h]
 ·rw [qE h,qE h]
def IsAllA (P:Program) (ops:Array Oper) (f:Fl):Prop :=
 ∃ o,ops[f.j]?=some o/\o.dst=some f.d/\(∀ a:Act,Region.wanted o (yielded ops a.tmps)=true)/\∀ (a:Act) (w:World),(execOp a.eval o).run P w=.ok (.value (ptrA w.heap.size)) (w.alloc (.cells f.z f.ty))
structure FlsA (P:Program) (ops:Array Oper) (fs:List Fl):Prop where
 all:∀ f ∈ fs,IsAllA P ops f
 one:(fs.map Fl.d).Nodup
theorem FlsA.of1 {P:Program} {ops:Array Oper} {f:Fl} (h:IsAllA P ops f):FlsA P ops [f]:=⟨fun g hg=>by rw [yG.1 hg];exact h,by simp⟩
theorem FlsA.of2 {P:Program} {ops:Array Oper} {f g:Fl} (h:IsAllA P ops f) (h':IsAllA P ops g) (hne:f.d≠g.d):FlsA P ops [f,g]:=by
 refine ⟨fun k hk=>?_,by simpa using hne⟩
 rcases List.mem_cons.1 hk with rfl | hk
 ·exact h
 ·rw [yG.1 hk];exact h'
section
variable {P:Program} {md:Region.Mode} {ops:Array Oper} {Q:Exit->Act->World->Prop} {S:World->Prop}
theorem wpOp_allA {f:Fl} (hA:IsAllA P ops f) {K:Act->World->Prop} {a:Act} {w:World} (h:K (a.put (some f.d) (ptrA w.heap.size)) (w.alloc (.cells f.z f.ty))):wpOp P ops Q f.j K a w:=by
 obtain ⟨o,ho,hd,hw,hrun⟩:=hA
 refine wpOp_step ho fun K' hK=>?_
 rw [qU (hw a)];unfold Oper.wp;rw [hrun,Oper.upon_value,hd];exact hK _ _ h
theorem wpOp_callA {i:Nat} {o:Oper} {a:Act} {w:World} (ho:ops[i]?=some o) (hw:Region.wanted o (yielded ops a.tmps)=true) {f:FuncId} {args:Array Value}
  (hrun:(execOp a.eval o).run P w=.ok (.enter f args) w) {R:Value->World->Prop} (hc:Calls P f args w fun e w'=>∃ v,e=.returned v/\R v w') {K:Act->World->Prop} (h:∀ v w',R v w'->K (a.put o.dst v) w'):wpOp P ops Q i K a w:=by
 refine wpOp_step ho fun K' hK=>?_
 rw [qU hw];unfold Oper.wp;rw [hrun,Oper.upon_enter];refine hc.mono ?_;rintro e w' ⟨v,rfl,hv⟩;exact hK _ _ (h v w' hv)
def FloA (P:Program) (md:Region.Mode) (ops:Array Oper) (Q:Exit->Act->World->Prop) (S:World->Prop) (W0:World) (fs:List Fl) (N n:Nat) (D:List Nat) (B:Array Value) (L:List (Nat × Value)) (w:World):Prop :=
 ∀ wx,Ext w wx->∀ st,OkA W0 wx fs st->wpAnyH P md ops Q S (n+leftA fs st) (dnA N ((doneA fs st).map Fl.j++D)) (frA fs B L (valA B st)) wx
theorem FloA.start (fs:List Fl) (N n m:Nat) {W0 w:World} {l:Array Bool} {a:Act} (h:FloA P md ops Q S W0 fs N n [] a.tmps [] w) (hm:n+fs.length=m:=by rfl) (hl:l=dnA N []:=by kernel_rfl) (ha:a=frA fs a.tmps [] (fun d=>a.tmps.getD d undef):=by kernel_rfl):wpAnyH P md ops Q S m l a w:=by
 have h0:=h w (Ext.refl _) (fun _=>none) ⟨fun _ _ _ e=>(by cases e),fun _ _ _ _ _ _ _ e=>(by cases e)⟩
 have e1:leftA fs (fun _=>none)=fs.length:=by unfold leftA;exact congrArg List.length (List.filter_eq_self.2 (fun _ _=>rfl))
 have e2:doneA fs (fun _=>none)=[]:=by unfold doneA;exact List.filter_eq_nil_iff.2 (fun _ _=>by simp)
 rw [e1,e2,hm] at h0;rw [hl,ha];exact h0
theorem left_upd {st:Nat->Option Nat} {f:Fl} (h0:st f.d=none) (G:Nat):∀ {fs:List Fl},(fs.map Fl.d).Nodup->f ∈ fs->leftA fs (updA st f.d G)+1=leftA fs st
 | [],_,hf=>by cases hf
 | g :: r,hn,hf=>by
  rw [yW,List.nodup_cons] at hn;unfold leftA;rw [List.filter_cons,List.filter_cons]
  by_cases e:g.d=f.d
  ·have h1:(updA st f.d G g.d).isNone=false:=by unfold updA;rw [qU e];rfl
   have h2:(st g.d).isNone=true:=by rw [e,h0];rfl
   have h3:r.filter (fun k=>(updA st f.d G k.d).isNone)=r.filter (fun k=>(st k.d).isNone):=by
    refine List.filter_congr fun k hk=>?_
    have:¬ k.d=f.d:=fun e2=>hn.1 (yU.2 ⟨k,hk,e2.trans e.symm⟩)
    unfold updA;rw [qE this]
   rw [h1,h2,h3,qU rfl,qE (by decide),jB]
  ·have hr:f ∈ r:=by
    rcases List.mem_cons.1 hf with h | h
    ·exact absurd (by rw [h]) e
    ·exact h
   have h1:(updA st f.d G g.d).isNone=(st g.d).isNone:=by unfold updA;rw [qE e]
   have ih:=left_upd h0 G hn.2 hr;unfold leftA at ih;rw [h1]
   split
   ·rw [jB,jB];omega
   ·exact ih
theorem fl_one {fs:List Fl} (hn:(fs.map Fl.d).Nodup) {g f:Fl} (hg:g ∈ fs) (hf:f ∈ fs) (e:g.d=f.d):g=f:=by
 obtain ⟨a,ha⟩:=List.getElem?_of_mem hg;obtain ⟨b,hb⟩:=List.getElem?_of_mem hf
 have h2:(fs.map Fl.d)[a]?=some f.d:=by rw [jM,ha,<-e];rfl
 have h3:(fs.map Fl.d)[b]?=some f.d:=by rw [jM,hb];rfl
 have:=(List.getElem?_inj (by rw [jY];exact (jG.1 ha).1) hn).1 (h2.trans h3.symm);subst this;exact Option.some.inj (ha.symm.trans hb)
theorem not_made {fs:List Fl} {st:Nat->Option Nat} {f:Fl} (hf:f ∈ fs) (h:(((fs.filter fun f=>(st f.d).isSome).map Fl.j).contains f.j)=false):st f.d=none:=by
 cases e:st f.d with
 | none=>rfl
 | some G =>
  have h1:f.j ∈ (fs.filter fun f=>(st f.d).isSome).map Fl.j:=yU.2 ⟨f,List.mem_filter.2 ⟨hf,by rw [e];rfl⟩,rfl⟩;rw [List.contains_iff_mem.2 h1] at h
  cases h
theorem done_upd {fs:List Fl} {st:Nat->Option Nat} {f:Fl} (hn:(fs.map Fl.d).Nodup) (hf:f ∈ fs) (G N:Nat) (D:List Nat):dnA N ((doneA fs (updA st f.d G)).map Fl.j++D)=dnA N (f.j :: ((doneA fs st).map Fl.j++D)):=by
 refine dnA_congr N fun i=>?_
 simp only [jI,yU,List.mem_cons,doneA,List.mem_filter]
 constructor
 ·rintro (⟨g,⟨hg,h1⟩,rfl⟩ | h)
  ·by_cases e:g.d=f.d
   ·refine qM ?_
    rw [fl_one hn hg hf e]
   ·refine qO (qM ⟨g,⟨hg,?_⟩,rfl⟩)
    unfold updA at h1;rw [qE e] at h1;exact h1
  ·exact qO (qO h)
 ·rintro (rfl | ⟨g,⟨hg,h1⟩,rfl⟩ | h)
  ·exact qM ⟨f,⟨hf,by unfold updA;rw [qU rfl];rfl⟩,rfl⟩
  ·refine qM ⟨g,⟨hg,?_⟩,rfl⟩
   unfold updA
   split
   ·rfl
   ·exact h1
  ·exact qO h
theorem FloA.of {W0 w:World} {fs:List Fl} {N n:Nat} {D:List Nat} {B:Array Value} {L:List (Nat × Value)} (hA:FlsA P ops fs) (hS:∀ w',Ext W0 w'->S w') (hw:Ext W0 w) (i:Option Nat)
  (hr:chkC md ops fs N D i=true)
  (hi:∀ wx,Ext w wx->∀ st,OkA W0 wx fs st->∀ k,i=some k->wpOp P ops Q k (fun a' w'=>S w'/\wpAnyH P md ops Q S (n+leftA fs st) ((dnA N ((doneA fs st).map Fl.j++D)).setIfInBounds k true) a' w') (frA fs B L (valA B st)) wx)
  (h0:i=none->∀ wx,Ext w wx->∀ st,OkA W0 wx fs st->leftA fs st=0->wpAnyH P md ops Q S (n+1) (dnA N ((doneA fs st).map Fl.j++D)) (frA fs B L (valA B st)) wx):FloA P md ops Q S W0 fs N (n+1) D B L w:=by
 have key:∀ m wx,Ext w wx->∀ st,OkA W0 wx fs st->leftA fs st=m->wpAnyH P md ops Q S (n+1+m) (dnA N ((doneA fs st).map Fl.j++D)) (frA fs B L (valA B st)) wx:=by
  intro m
  induction m with
  | zero =>
   intro wx hx st hst hm
   cases i with
   | none=>exact h0 rfl wx hx st hst hm
   | some k =>
    have hc:=List.all_eq_true.1 hr _ (subsA_filter (fun f=>(st f.d).isSome) fs);simp only [Option.isNone_some,Bool.false_and,Bool.false_or,Bool.and_eq_true,Bool.not_eq_true'] at hc;refine ⟨fun e=>?_,fun t ht=>?_⟩
    ·have:=hc.1
     unfold doneA at e;rw [e] at this
     cases this
    ·have h1:=List.all_eq_true.1 hc.2 t ht
     rw [Bool.or_eq_true,jZ,List.any_eq_true] at h1
     rcases h1 with h1 | ⟨f,hf,h2⟩
     ·have:=hi wx hx st hst t h1
      rw [hm] at this;exact this
     ·exfalso
      rw [Bool.and_eq_true,Bool.not_eq_true',yY] at h2;have h3:st f.d=none:=not_made hf (by rw [<-h2.1];exact h2.2);have:=left_upd h3 0 hA.one hf;omega
  | succ m ih =>
   intro wx hx st hst hm;have hc:=List.all_eq_true.1 hr _ (subsA_filter (fun f=>(st f.d).isSome) fs);rw [Bool.or_eq_true,Bool.and_eq_true,Bool.and_eq_true,yY,Bool.not_eq_true'] at hc
   have hc:=hc.resolve_left fun ⟨_,h9⟩=>by
    have h8:=List.length_filter_eq_length_iff.1 h9
    have:leftA fs st=0:=by
     unfold leftA
     rw [List.filter_eq_nil_iff.2 (fun f hf=>by have:=h8 f hf;cases h:st f.d<;>simp_all)]
     rfl
    omega
   have hne:Region.ready md ops (dnA N ((doneA fs st).map Fl.j++D))≠[]:=fun e=>by
    have h9:=hc.1;unfold doneA at e;rw [e] at h9
    cases h9
   refine ⟨fun e=>absurd e hne,fun t ht=>?_⟩;have h1:=List.all_eq_true.1 hc.2 t ht;rw [Bool.or_eq_true,jZ,List.any_eq_true] at h1
   rcases h1 with h1 | ⟨f,hf,h2⟩
   ·have:=hi wx hx st hst t h1
    rw [hm,show n+(m+1)=(n+1).add m from (show n+(m+1)=n+1+m by omega)] at this;exact this
   ·rw [Bool.and_eq_true,Bool.not_eq_true',yY] at h2
    have h3:st f.d=none:=not_made hf (by rw [<-h2.1];exact h2.2);obtain ⟨ht,_⟩:=h2;subst ht;refine wpOp_allA (hA.all f hf) ?_;have he:=extA wx (.cells f.z f.ty);refine ⟨hS _ ((hw.trans hx).trans he),?_⟩;have hl:=left_upd h3 wx.heap.size hA.one hf;have:=ih _ (hx.trans he) (updA st f.d wx.heap.size) ⟨fun g hg G e=>?_,fun g hg k hk hne G K e1 e2=>?_⟩ (by omega)
    ·rw [dnA_set,frA_put hf,<-valA_upd,<-done_upd hA.one hf wx.heap.size]
     exact this
    ·unfold updA at e
     split at e
     ·rename_i h9
      cases e
      rw [fl_one hA.one hg hf h9];exact ⟨(hw.trans hx).size,qW wx _⟩
     ·exact (hst.new g hg G e).ext he
    ·unfold updA at e1 e2
     split at e1
     ·split at e2
      ·rename_i h8 h9;exact absurd (h8.trans h9.symm) hne
      ·cases e1
       have:=(hst.new k hk K e2).lt;omega
     ·split at e2
      ·cases e2
       have:=(hst.new g hg G e1).lt;omega
      ·exact hst.ne g hg k hk hne G K e1 e2
 exact fun wx hx st hst=>key _ wx hx st hst rfl
theorem FloA.call {W0 w:World} {fs:List Fl} {N n:Nat} {D:List Nat} {B:Array Value} {L:List (Nat × Value)} (hA:FlsA P ops fs) (hS:∀ w',Ext W0 w'->S w') (hw:Ext W0 w) (i s:Nat) {o:Oper} (ho:ops[i]?=some o) (f:FuncId) (args:Array Value)
  {R:Value->World->Prop} (hc:∀ wx,Ext w wx->Calls P f args wx fun e w'=>∃ v,e=.returned v/\R v w'/\Ext wx w') (next:∀ v w',R v w'->Ext w w'->FloA P md ops Q S W0 fs N n (i :: D) B ((s,v) :: L) w')
  (hr:chkC md ops fs N D (some i)=true:=by kernel_rfl) (hrun:∀ T wx,(execOp (frA fs B L T).eval o).run P wx=.ok (.enter f args) wx:=by intro _ _;kernel_rfl) (hwa:∀ T,Region.wanted o (yielded ops (frA fs B L T).tmps)=true:=by intro _;kernel_rfl)
  (hp:∀ v T,(frA fs B L T).put o.dst v=frA fs B ((s,v) :: L) T:=by intro _ _;kernel_rfl):FloA P md ops Q S W0 fs N (n+1) D B L w:=by
 refine FloA.of hA hS hw (some i) hr ?_ (fun h=>by cases h);intro wx hx st hst k hk
 cases hk
 refine wpOp_callA ho (hwa _) (hrun _ _) (hc wx hx) fun v w' ⟨hv,hx'⟩=>?_
 rw [hp,dnA_set];refine ⟨hS _ ((hw.trans hx).trans hx'),?_⟩;have:=next v w' hv (hx.trans hx') w' (Ext.refl _) st (hst.ext hx');rw [dnA_congr N (D:=i :: ((doneA fs st).map Fl.j++D)) (E:=(doneA fs st).map Fl.j++i :: D) (fun j=>by simp only [List.mem_cons,jI];exact or_left_comm)];exact this
theorem FloA.take {W0 w:World} {fs:List Fl} {N n:Nat} {D:List Nat} {B:Array Value} {L:List (Nat × Value)} (hS:∀ w',Ext W0 w'->S w') (hw:Ext W0 w) (i s:Nat) (v:Value) {o:Oper} (ho:ops[i]?=some o)
  (hv:∀ T w',S w'->(execOp (frA fs B L T).eval o).run P w'=.ok (.value v) w') (next:FloA P md ops Q S W0 fs N n (i :: D) B ((s,v) :: L) w)
  (hr:chkT md ops fs N D i=true:=by kernel_rfl) (hs:Region.noSelect ops=true:=by kernel_rfl) (hwa:∀ T,Region.wanted o (yielded ops (frA fs B L T).tmps)=true:=by intro _;kernel_rfl) (hQ:∀ c a w,Q (.panic c) (a.put o.dst v) w->Q (.panic c) a w:=by exact fun _ _ _ h=>h)
  (hp:∀ T,(frA fs B L T).put o.dst v=frA fs B ((s,v) :: L) T:=by intro _;kernel_rfl):FloA P md ops Q S W0 fs N (n+1) D B L w:=by
 intro wx hx st hst;have hc:=List.all_eq_true.1 hr _ (subsA_filter (fun f=>(st f.d).isSome) fs);rw [Bool.and_eq_true] at hc;rw [show n+1+leftA fs st=(n+leftA fs st)+1 by omega];refine wpAnyH_take ho hs hc.1 hc.2 hQ (qM ⟨hwa _,hv _⟩) (hS _ (hw.trans hx)) ?_;have:=next wx hx st hst;rw [hp,<-show dnA N (i :: ((doneA fs st).map Fl.j++D))=(dnA N ((doneA fs st).map Fl.j++D)).setIfInBounds i true from (dnA_set _ _ _).symm,dnA_congr N (D:=i :: ((doneA fs st).map Fl.j++D)) (E:=(doneA fs st).map Fl.j++i :: D) (fun j=>by simp only [List.mem_cons,jI];exact or_left_comm)];exact this
theorem FloA.move {W0 w:World} {fs:List Fl} {N n:Nat} {D:List Nat} {B:Array Value} {L:List (Nat × Value)} (hS:∀ w',Ext W0 w'->S w') (hw:Ext W0 w) (i s:Nat) (v:Value) {o:Oper} (ho:ops[i]?=some o)
  (next:FloA P md ops Q S W0 fs N n (i :: D) B ((s,v) :: L) w) (hv:∀ T w',(execOp (frA fs B L T).eval o).run P w'=.ok (.value v) w':=by intro _ _;kernel_rfl)
  (hr:chkT md ops fs N D i=true:=by kernel_rfl) (hs:Region.noSelect ops=true:=by kernel_rfl) (hwa:∀ T,Region.wanted o (yielded ops (frA fs B L T).tmps)=true:=by intro _;kernel_rfl) (hQ:∀ c a w,Q (.panic c) (a.put o.dst v) w->Q (.panic c) a w:=by exact fun _ _ _ h=>h)
  (hp:∀ T,(frA fs B L T).put o.dst v=frA fs B ((s,v) :: L) T:=by intro _;kernel_rfl):FloA P md ops Q S W0 fs N (n+1) D B L w:=FloA.take hS hw i s v ho (fun T w' _=>hv T w') next hr hs hwa hQ hp
theorem FloA.done {W0 w:World} {fs:List Fl} {N n:Nat} {D:List Nat} {B:Array Value} {L:List (Nat × Value)} (hA:FlsA P ops fs) (hS:∀ w',Ext W0 w'->S w') (hw:Ext W0 w)
  (h:∀ wx,Ext w wx->∀ st,OkA W0 wx fs st->leftA fs st=0->wpAnyH P md ops Q S (n+1) (dnA N (fs.map Fl.j++D)) (frA fs B L (valA B st)) wx)
  (hr:chkC md ops fs N D none=true:=by kernel_rfl):FloA P md ops Q S W0 fs N (n+1) D B L w:=by
 refine FloA.of hA hS hw none hr (fun _ _ _ _ _ h=>by cases h) ?_;intro _ wx hx st hst hl
 have e:doneA fs st=fs:=by
  unfold doneA
  refine List.filter_eq_self.2 fun f hf=>?_
  unfold leftA at hl;have:=List.filter_eq_nil_iff.1 (List.length_eq_zero_iff.1 hl) f hf
  cases h9:st f.d<;>simp_all
 rw [e];exact h wx hx st hst hl
theorem FloA.done1 {W0 w:World} {f:Fl} {N n:Nat} {D:List Nat} {B:Array Value} {L:List (Nat × Value)} (hA:FlsA P ops [f]) (hS:∀ w',Ext W0 w'->S w') (hw:Ext W0 w)
  (h:∀ wx,Ext w wx->∀ G,NewA W0 wx f G->wpAnyH P md ops Q S (n+1) (dnA N (f.j :: D)) (fbA B ((f.d,ptrA G) :: L)) wx)
  (hr:chkC md ops [f] N D none=true:=by kernel_rfl):FloA P md ops Q S W0 [f] N (n+1) D B L w:=by
 refine FloA.done hA hS hw ?_ hr;intro wx hx st hst hl
 cases e:st f.d with
 | none=>unfold leftA at hl;simp [e] at hl
 | some G =>
  have:=h wx hx G (hst.new f (yG.2 rfl) G e)
  have e2:valA B st f.d=ptrA G:=by unfold valA;rw [e]
  unfold frA;simp only [yW,yI,e2];exact this
theorem FloA.done2 {W0 w:World} {f g:Fl} {N n:Nat} {D:List Nat} {B:Array Value} {L:List (Nat × Value)} (hA:FlsA P ops [f,g]) (hne:f.d≠g.d) (hS:∀ w',Ext W0 w'->S w') (hw:Ext W0 w)
  (h:∀ wx,Ext w wx->∀ G K,NewA W0 wx f G->NewA W0 wx g K->G≠K->wpAnyH P md ops Q S (n+1) (dnA N (f.j :: g.j :: D)) (fbA B ((f.d,ptrA G) :: (g.d,ptrA K) :: L)) wx)
  (hr:chkC md ops [f,g] N D none=true:=by kernel_rfl):FloA P md ops Q S W0 [f,g] N (n+1) D B L w:=by
 refine FloA.done hA hS hw ?_ hr;intro wx hx st hst hl
 cases e:st f.d with
 | none=>unfold leftA at hl;simp [e] at hl
 | some G =>
  cases e':st g.d with
  | none=>unfold leftA at hl;simp [e,e'] at hl
  | some K =>
   have:=h wx hx G K (hst.new f (by simp) G e) (hst.new g (by simp) K e') (hst.ne f (by simp) g (by simp) hne G K e e')
   have e2:valA B st f.d=ptrA G:=by unfold valA;rw [e]
   have e3:valA B st g.d=ptrA K:=by unfold valA;rw [e']
   unfold frA;simp only [yW,yI,e2,e3];exact this
theorem anyH_oneA {i:Nat} {o:Oper} {n:Nat} {l:Array Bool} {a:Act} {w:World} (hr:Region.ready md ops l=[i]) (ho:ops[i]?=some o)
  (h:∀ K':Act->World->Prop,Shut (∀ a w,S w->wpAnyH P md ops Q S n (l.setIfInBounds i true) a w->K' a w)->if Region.wanted o (yielded ops a.tmps)=true then Oper.wp P o a w K' Q else K' (a.put o.dst undef) w) :
  wpAnyH P md ops Q S (n+1) l a w:=by
 refine ⟨fun h0=>(by rw [hr] at h0;cases h0),fun j hj=>?_⟩;rw [hr] at hj
 rcases yG.1 hj with rfl
 exact wpOp_step ho (fun K' hK=>h K' (fun a w hS hW=>hK a w ⟨hS,hW⟩))
end
theorem exec_rowA {P:Program} {ρ:Operand->Value} {o:Oper} {w:World} {ty t:TypeId} {x:Operand} {g:Nat} {cs:Array Value} {fr:Nat × Nat} {d:TypeDesc} (hg:w.heap[g]?=some (.cells cs t fr)) (hu:P.underlying ty=some d) (hi:(P.info? ty).map (·.size)=some cs.size)
  (hd:(match d with | .struct _ | .array _ _=>true | _=>false)=true:=by rfl) (ho:o.op=.load ty x:=by rfl) (hx:ρ x=.pointer (some ⟨g,0,none⟩):=by kernel_rfl):(execOp ρ o).run P w=.ok (.value (.agg cs)) w:=by
 unfold execOp;simp only [ho,hx,Instr.loadAt,Instr.sureAddr,Sem.run_bind,Sem.run_pure,Result.andThen_ok,run_loadVar_row w g t ty cs fr d hg hu hd hi]
theorem exec_midA {P:Program} {ρ:Operand->Value} {o:Oper} {w:World} {ty t:TypeId} {x:Operand} {b:Nat} {row:Array Value} (off:Nat) (cs:List Value) {d:TypeDesc} (hg:w.heap[b]?=some (.cells row t (0,0))) (hu:P.underlying ty=some d) (hi:(P.info? ty).map (·.size)=some cs.length)
  (hc:(row.toList.drop off).take cs.length=cs:=by rfl) (hd:d.isRow=true:=by rfl) (ho:o.op=.load ty x:=by rfl) (hx:ρ x=.pointer (some ⟨b,off,none⟩):=by kernel_rfl):(execOp ρ o).run P w=.ok (.value (.agg cs.toArray)) w:=by
 have hr:w.rangeAt b off cs:=by
  intro j v hv;rw [qD w b _ _ t (0,0) hg];have hj:j<cs.length:=(jG.1 hv).1;have:=congrArg (·[j]?) hc;simp only [jC,qU hj,List.getElem?_drop,Array.getElem?_toList,hv] at this;exact this
 unfold execOp;simp only [ho,hx,Instr.loadAt,Instr.sureAddr,Sem.run_bind,Sem.run_pure,Result.andThen_ok,run_loadVar_mid w b off ty cs d hr hu hd hi]
structure ChB (K n:Nat) (cnt:Nat->Nat) (z1 z2 z3:Int):Prop where
 hK:K<=4194304
 hK1:1<=K
 f1:Fit K z1
 f2:Fit K z2
 f3:Fit K z3
 p1:∀ i,i<=n->Fit K (z1 ^ i)
 p2:∀ i,i<=n->Fit K (z2 ^ i)
 p3:∀ i,i<=n->Fit K (z3 ^ i)
 fc:∀ i,i<=n->Fit K (cnt i:Int)
 c64:∀ i,cnt i<=1099511627776
 fg:∀ i,i<=n->Fit K (z1 ^ i*z2 ^ (n-i))
 fx:∀ i,i<=n->Fit K (cnt i*(z1 ^ i*z2 ^ (n-i)))
 fs:∀ m,m<=n+1->Fit K (gsm cnt z1 z2 n m)
theorem gsm_step {cnt:Nat->Nat} {a v:Int} {n m:Nat} (h:m<=n):gsm cnt a v n m+cnt m*(a ^ m*v ^ (n-m))=gsm cnt a v n (m+1):=by
 show _=gsm cnt a v n m+cnt m*gtm a v m n
 rw [gtm_all h]
theorem keep_onlyI {w w':World} {g:Nat} {cs:Array Value} {t:TypeId} (ho:Only g w w') (h:w.heap[g]?=some (.cells cs t (0,0))) (hn:∀ (i:Nat) (x:Int),cs[i]?≠some (Value.int .u64 x)):Keep64 w w':=by
 refine ⟨by rw [ho.size];exact qZ _,fun b o x hx=>?_⟩
 by_cases hb:b=g
 ·subst hb
  rw [qD w b o cs t (0,0) h] at hx;exact absurd hx (hn o x)
 ·have:=ho.block b hb
  simp only [World.cell?] at hx ⊢;rw [this];exact hx
theorem noword2 (s:Int) (a:Option Addr) (n c:Nat) (i:Nat) (x:Int):(#[.int .i64 s,.slice a n c]:Array Value)[i]?≠some (Value.int .u64 x):=by
 match i with
 | 0=>simp
 | 1=>simp
 | k+2=>simp
theorem vari_put {w:World} {g:Nat} {s0:Int} {a0:Option Addr} {m0 c0:Nat} (h:w.heap[g]?=some (.cells #[.int .i64 s0,.slice a0 m0 c0] 54 (0,0))) {s:Int} {a:Option Addr} {n c:Nat} {z:Int} (hI:IsInt w s a n c z):VarI (w.setRow g #[.int .i64 s,.slice a n c]) g z :=
 ⟨s,a,n,c,⟨setRow_heap w g _ _ _ _ h⟩,hI.keep64 (keep_onlyI (setRow_onlyC w g _) h (noword2 _ _ _ _))⟩
theorem QBx.onlyI {W W':World} {g k:Nat} {s:Int} {a:Option Addr} {n c:Nat} {s':Int} {a':Option Addr} {n' c':Nat} (h:QBx W g s a n c s' a' n' c') (hO:Only k W W') (hne:g≠k):QBx W' g s a n c s' a' n' c':=⟨(hO.block _ hne).trans h.row⟩
theorem in_info:(Tryz.prog.info? 54).map (·.size)=some 2:=by kernel_rfl
theorem IRet.val {w w':World} {z:Int} {e:Ending} (h:IRet w z e w'):∃ v,e=.returned v/\(∃ (s:Int) (a:Option Addr) (n c:Nat),v=.agg #[.int .i64 s,.slice a n c]/\IsInt w' s a n c z)/\Ext w w':=by
 obtain ⟨s,a,n,c,rfl,h1,h2⟩:=h;exact ⟨_,rfl,⟨s,a,n,c,rfl,h1⟩,h2⟩
theorem QRetF.val {w w':World} {P Q C:Int} {e:Ending} (h:QRetF w P Q C e w'):∃ v,e=.returned v/\(∃ (s:Int) (a:Option Addr) (n c:Nat) (s':Int) (a':Option Addr) (n' c':Nat),v=.tuple #[.agg #[.int .i64 s,.slice a n c,.int .i64 s',.slice a' n' c'],.agg #[.int .i64 C,.int .i64 0]]/\IsFr w' s a n c s' a' n' c' P Q)/\Ext w w':=by
 obtain ⟨s,a,n,c,s',a',n',c',rfl,h1,h2⟩:=h;exact ⟨_,rfl,⟨s,a,n,c,s',a',n',c',rfl,h1⟩,h2⟩
theorem frac_infoC:(Tryz.prog.info? 56).map (·.size)=some 4:=by kernel_rfl
theorem fault_infoC:(Tryz.prog.info? 26).map (·.size)=some 2:=by kernel_rfl
theorem noword4 (s:Int) (a:Option Addr) (n c:Nat) (s':Int) (a':Option Addr) (n' c':Nat) (i:Nat) (x:Int):(#[.int .i64 s,.slice a n c,.int .i64 s',.slice a' n' c']:Array Value)[i]?≠some (Value.int .u64 x):=by
 match i with
 | 0=>simp
 | 1=>simp
 | 2=>simp
 | 3=>simp
 | k+4=>simp
theorem nowordF (u v:Int) (i:Nat) (x:Int):(#[.int .i64 u,.int .i64 v]:Array Value)[i]?≠some (Value.int .u64 x):=by
 match i with
 | 0=>simp
 | 1=>simp
 | k+2=>simp
theorem chance_any (s1:Int) (a1:Option Addr) (n1 c1:Nat) (s2:Int) (a2:Option Addr) (n2 c2:Nat) (s3:Int) (a3:Option Addr) (n3 c3:Nat) (z1 z2 z3:Int) (ao:Option Addr) (c n:Nat) (hn:n<=12) (cnt:Nat->Nat) (K:Nat) (hB:ChB K n cnt z1 z2 z3)
  (w:World) (h1:IsInt w s1 a1 n1 c1 z1) (h2:IsInt w s2 a2 n2 c2 z2) (h3:IsInt w s3 a3 n3 c3 z3) (hL:IntsAt w ao (n+1) ((List.range (n+1)).map fun i=>(cnt i:Int))) (hbr:Bru w) :
  Calls Tryz.prog 18 #[.agg #[.int .i64 s1,.slice a1 n1 c1,.int .i64 s2,.slice a2 n2 c2,.int .i64 s3,.slice a3 n3 c3],.slice ao (n+1) c] w (QRet w (nfp (gsm cnt z1 z2 n (n+1)) (z3 ^ n)) (nfq (gsm cnt z1 z2 n (n+1)) (z3 ^ n))):=by
 obtain ⟨b,o,rfl,hbl,hcell⟩:=hL.at (Nat.succ_pos n)
 have hcell':∀ m,m<=n->w.cell? ⟨b,o+m,none⟩=some (.int .i64 (cnt m:Int)):=fun m hm=>by
  rw [hcell m (by omega)]
  simp [List.getD_eq_getElem?_getD,List.getElem?_map,List.getElem?_range (show m<n+1 by omega)]
 obtain ⟨H,hH⟩:∃ H,w.heap.size=H:=⟨_,rfl⟩;obtain ⟨W0,hW0⟩:∃ W0,(w.alloc (.cells #[.int .i64 s1,.slice a1 n1 c1,.int .i64 s2,.slice a2 n2 c2,.int .i64 s3,.slice a3 n3 c3] 60)).alloc (.cells #[.int .i64 0,.slice none 0 0,.int .i64 0,.slice none 0 0] 56)=W0:=⟨_,rfl⟩
 have s0:W0.heap.size=H+1+1:=by rw [<-hW0,<-hH];simp
 have E0:Ext w W0:=by rw [<-hW0];exact (Ext.alloc w _).then _
 have B0:OdB W0 H s1 a1 n1 c1 s2 a2 n2 c2 s3 a3 n3 c3:=by
  rw [<-hW0,<-hH];exact OdB.ext ⟨qW w _⟩ (Ext.alloc _ _)
 have R0:QBx W0 (H+1) 0 none 0 0 0 none 0 0:=by
  have:=qbx_new (w.alloc (.cells #[.int .i64 s1,.slice a1 n1 c1,.int .i64 s2,.slice a2 n2 c2,.int .i64 s3,.slice a3 n3 c3] 60)) 0 none 0 0 0 none 0 0;rw [hW0,yO,hH] at this;exact this
 have HE0:=hid E0;have HO:=hid B0;have HR:=hid R0;have HW0:=hid hW0;have HH:=hid hH;have Hs0:=hid s0;have H1:=hid h1;have H2:=hid h2;have H3:=hid h3;have HB:=hid hB;have Hbr:=hid hbr;have Hn:=hid hn;have HC:=hid hcell';have Hbl:=hid hbl
 have wk1:wrap64 (n:Int)=(n:Int):=by unfold wrap64;omega
 clear E0 B0 R0 hW0 hH s0 h1 h2 h3 hB hbr hn hcell hcell' hL hbl
 go_enter Tryz.func18,Tryz.ntmps18
 go_upto_region 1 with fail
 rw [HW0.out,HH.out]
 go_upto_region 3 with fail
 obtain ⟨W1,hW1⟩:∃ W1,W0.alloc (.cells #[.int .i64 0,.slice none 0 0] 54)=W1:=⟨_,rfl⟩
 have E1:Ext W0 W1:=by rw [<-hW1];exact Ext.alloc _ _
 have BS:Box W1 (H+1+1) 0 none 0 0:=by rw [<-hW1,<-Hs0.out];exact box_new W0 0 none 0 0
 have HBS:=hid BS;have HE1:=hid (HE0.out.trans E1);have HO1:=hid (HO.out.ext E1);have HR1:=hid (HR.out.ext E1);rw [Hs0.out,hW1];simp only [wk1];clear hW1 E1 BS HO HR HE0 Hs0 HW0
 go_wp2_with fail
 go_loopg [17] (n+1) (fun kk s17 wr=>∃ m:Nat,s17=.int .i64 (m:Int)/\m<=n+1/\n+1-m=kk/\VarI wr (H+1+1) (gsm cnt z1 z2 n m)/\OdB wr H s1 a1 n1 c1 s2 a2 n2 c2 s3 a3 n3 c3/\QBx wr (H+1) 0 none 0 0 0 none 0 0/\Ext w wr)
 case atStart=>exact ⟨0,rfl,qI _,rfl,⟨0,none,0,0,HBS.out,IsInt.small _ 0 (by decide) (by decide)⟩,HO1.out,HR1.out,HE1.out⟩
 case round =>
  obtain ⟨m,rfl,hm,hkk,⟨s4,a4,n4,c4,b4,i4⟩,bO,bR,hx⟩:=hrel;have Hkk:=hid hkk;have Hb4:=hid b4;have Hi4:=hid i4;have HbO:=hid bO;have HbR:=hid bR;have Hx:=hid hx;have Hm:=hid hm
  by_cases hmn:m=n+1
  ·have q1:¬ (m:Int)<((n+1:Nat):Int):=by omega
   subst hmn;clear hkk hm b4 i4 bO bR hx
   go_upto_region 9 with fail
   have kO:=HbO.out;have m0:=Hb4.out.c0;have m1:=Hb4.out.c1;have m2:=kO.x4;have m3:=kO.x5;have P3:=hid (fun (wx:World) (hx:Ext wr wx)=>power_any s3 a3 n3 c3 z3 n (by have:=Hn.out;omega) wx (H3.out.ext (Hx.out.trans hx)) K HB.out.hK HB.out.f3 (fun i hi=>HB.out.p3 i hi));have HOv:=hid (fun (wx:World) (hx:Ext wr wx) (sv:Int) (ov:Option Addr) (mv jv:Nat) (h:IsInt wx sv ov mv jv (z3 ^ n))=>Over_fr s4 sv a4 ov n4 c4 mv jv (gsm cnt z1 z2 n (n+1)) (z3 ^ n) wx (Hi4.out.ext hx) h K HB.out.hK HB.out.hK1 (HB.out.fs (n+1) (qZ _)) (HB.out.p3 n (qZ _)) (bru_ext Hbr.out (Hx.out.trans hx)));clear kO q1
   go_cut [10,11] from 40 to 48 (fun s10 s11 wx=>∃ U,U=wx/\∃ G,s10=.pointer (some ⟨G,0,none⟩)/\∃ (t1:Int) (b1:Option Addr) (m1 k1:Nat) (t2:Int) (b2:Option Addr) (m2 k2:Nat),QBx U G t1 b1 m1 k1 t2 b2 m2 k2/\IsFr U t1 b1 m1 k1 t2 b2 m2 k2 (nfp (gsm cnt z1 z2 n (n+1)) (z3 ^ n)) (nfq (gsm cnt z1 z2 n (n+1)) (z3 ^ n))/\wr.heap.size<=G/\Ext wr U)
   case first =>
    have HS:∀ w',Ext wr w'->w'.heap[H+1+1]?=some (.cells #[.int .i64 s4,.slice a4 n4 c4] 54 (0,0))/\w'.heap[H]?=some (.cells #[.int .i64 s1,.slice a1 n1 c1,.int .i64 s2,.slice a2 n2 c2,.int .i64 s3,.slice a3 n3 c3] 60 (0,0)):=fun w' hx=>⟨(Hb4.out.ext hx).row,(HbO.out.ext hx).row⟩
    clear m0 m1 m2 m3;have he0:Ext wr wr.drew:=qG (Ext.refl _);refine wp_region_held (S:=fun w'=>w'.heap[H+1+1]?=some (.cells #[.int .i64 s4,.slice a4 n4 c4] 54 (0,0))/\w'.heap[H]?=some (.cells #[.int .i64 s1,.slice a1 n1 c1,.int .i64 s2,.slice a2 n2 c2,.int .i64 s3,.slice a3 n3 c3] 60 (0,0))) (by kernel_rfl) ?_;generalize hops:(#[_,_,_,_,_,_,_,_,_,_,_,_,_]:Array Oper)=ops
    have hA:FlsA Tryz.prog ops [⟨9,10,56,#[.int .i64 0,.slice none 0 0,.int .i64 0,.slice none 0 0]⟩,⟨10,11,26,#[.int .i64 0,.int .i64 0]⟩]:=by
     subst hops;exact .of2 ⟨_,rfl,rfl,fun _=>rfl,fun _ _=>by kernel_rfl⟩ ⟨_,rfl,rfl,fun _=>rfl,fun _ _=>by kernel_rfl⟩ (by decide)
    subst hops;refine FloA.start [⟨9,10,56,#[.int .i64 0,.slice none 0 0,.int .i64 0,.slice none 0 0]⟩,⟨10,11,26,#[.int .i64 0,.int .i64 0]⟩] 13 11 13 (.take HS he0 0 41 (.agg #[.int .i64 s4,.slice a4 n4 c4]) rfl (fun _ _ h=>exec_rowA h.1 Tryz.underlying54 in_info) (.move HS he0 1 42 (.pointer (some ⟨H,4,none⟩)) rfl (.take HS he0 2 43 (.agg #[.int .i64 s3,.slice a3 n3 c3]) rfl (fun _ _ h=>exec_midA 4 [.int .i64 s3,.slice a3 n3 c3] h.2 Tryz.underlying54 in_info) (.move HS he0 3 44 (.int .i64 (n:Int)) rfl ?_))));refine .call hA HS he0 4 45 rfl _ _ (fun wx hx=>(P3.out wx (he0.trans hx)).mono fun _ _ h=>h.val) ?_;rintro _ wa ⟨s7,a7,n7,c7,rfl,K7⟩ hqa;have hea:=he0.trans hqa;refine .call hA HS hea 5 46 rfl _ _ (fun wx hx=>(HOv.out wx (hea.trans hx) s7 a7 n7 c7 (K7.ext hx)).mono fun _ _ h=>h.val) ?_;rintro _ wb ⟨t1,b1,m1,k1,t2,b2,m2,k2,rfl,K8⟩ hqb;have heb:=hea.trans hqb;refine .move HS heb 6 40 (.tuple #[.agg #[.int .i64 t1,.slice b1 m1 k1,.int .i64 t2,.slice b2 m2 k2],.agg #[.int .i64 (ovc (z3 ^ n)),.int .i64 0]]) rfl (.move HS heb 7 47 (.agg #[.int .i64 t1,.slice b1 m1 k1,.int .i64 t2,.slice b2 m2 k2]) rfl (.move HS heb 8 48 (.agg #[.int .i64 (ovc (z3 ^ n)),.int .i64 0]) rfl (.done2 hA (by decide) HS heb ?_)));intro wy hy G E hG hE hne;have hey:=heb.trans hy;simp only [fbA,List.foldr,sx0,sx1,sx2,ptrA];refine anyH_oneA (i:=11) (by kernel_rfl) rfl (fun Kk hKk=>?_);refine stepK_storeRowC rfl rfl 56 _ _ rfl G #[.int .i64 t1,.slice b1 m1 k1,.int .i64 t2,.slice b2 m2 k2] (by kernel_rfl) (by kernel_rfl) 56 _ hG.2 frac_infoC rfl (by kernel_rfl) ?_;have on1:=setRow_onlyC wy G #[.int .i64 t1,.slice b1 m1 k1,.int .i64 t2,.slice b2 m2 k2];have ee:=ext_onlyC hey on1 hG.1;refine hKk.out _ _ (HS _ ee) ?_;clear hKk Kk;have rE:=(on1.block E (Ne.symm hne)).trans hE.2;have on2:=setRow_onlyC (wy.setRow G #[.int .i64 t1,.slice b1 m1 k1,.int .i64 t2,.slice b2 m2 k2]) E #[.int .i64 (ovc (z3 ^ n)),.int .i64 0];refine anyH_oneA (i:=12) (by kernel_rfl) rfl (fun Kk hKk=>?_);refine stepK_storeRowC rfl rfl 26 _ _ rfl E #[.int .i64 (ovc (z3 ^ n)),.int .i64 0] (by kernel_rfl) (by kernel_rfl) 26 _ rE fault_infoC rfl (by kernel_rfl) ?_
    have He:=Lh (ext_onlyC ee on2 hE.1);refine hKk.out _ _ (HS _ He.out) ?_;refine wpAnyH_done (by kernel_rfl) ?_ _;have Hq:=Lh ((on2.block G hne).trans (setRow_heap wy G _ #[.int .i64 t1,.slice b1 m1 k1,.int .i64 t2,.slice b2 m2 k2] _ _ hG.2));have Hk:=Lh (((K8.ext hy).keep64 (keep_onlyI on1 hG.2 (noword4 _ _ _ _ _ _ _ _))).keep64 (keep_onlyI on2 rE (nowordF _ _)));have HG:=Lh hG.1;generalize (wy.setRow G #[.int .i64 t1,.slice b1 m1 k1,.int .i64 t2,.slice b2 m2 k2]).setRow E #[.int .i64 (ovc (z3 ^ n)),.int .i64 0]=wZ at *;clear hKk Kk hG hE hey heb hea hqb hqa K7 K8 hA hy on1 on2 ee rE
    go_wp2_with fail
    go_meet
    exact ⟨_,rfl,G,rfl,_,_,_,_,_,_,_,_,⟨Hq.out⟩,Hk.out,HG.out,He.out⟩
   case rest =>
    obtain ⟨U,rfl,G,rfl,s9,a9,n9,c9,s8,a8,n8,c8,q9,I9,hG,EU⟩:=hcut;have qr:=HbR.out.ext EU;have k0:=q9.c0;have k1:=q9.c1;have k2:=q9.c2;have k3:=q9.c3;have r0:=qr.c0;have r1:=qr.c1;have r2:=qr.c2;have r3:=qr.c3;have f0:=jQ U (H+1) 0 _ _ qr.row;have f1:=jQ U (H+1) 1 _ _ qr.row;have f2:=jQ U (H+1) 2 _ _ qr.row;have f3:=jQ U (H+1) 3 _ _ qr.row;have hkk:=Keep64.set4 (w:=U) (.i64 r0) (.slice r1) (.i64 r2) (.slice r3) (notW_i64 s9) (notW_slice a9 n9 c9) (notW_i64 s8) (.slice a8 n8 c8);have HI9:=hid (I9.keep64 hkk);have HEU:=hid (Hx.out.trans EU);have lH:=hid (show w.heap.size<=H+1 by have:=HH.out;omega);clear hkk I9 hG EU q9 qr m0 m1 m2 m3
    go_wp2_with fail
    exact qJ (v:=.agg #[.int .i64 s9,.slice a9 n9 c9,.int .i64 s8,.slice a8 n8 c8]) (by simp [results,Tryz.results18,go_sem,r0,r1,r2,r3]) rfl ⟨s9,a9,n9,c9,s8,a8,n8,c8,rfl,HI9.out,(HEU.out.put2 lH.out _ _).put2 lH.out _ _⟩
  have hlt:m<=n:=by omega
  have q1:(m:Int)<((n+1:Nat):Int):=by omega
  have q2:m<n+1:=by omega
  have wk:IntKind.i64.wrap ((m:Int)+1)=((m+1:Nat):Int):=by rw [qH];have:=Hn.out;omega
  have wk2:IntKind.i64.wrap ((n:Int)-(m:Int))=((n-m:Nat):Int):=by rw [qH];have:=Hn.out;omega
  have x0:wr.cell? ⟨b,o+m,none⟩=some (.int .i64 (cnt m:Int)):=(hx.cell (p:=⟨b,o+m,none⟩) Hbl.out).trans (HC.out m hlt);have Hlt:=hid hlt;clear hkk hm b4 i4 bO bR hx hlt hmn;have hdm:decide ((m:Int)<(n:Int)+1)=true:=jJ (by omega)
  go_upto_region 6 with fail
  clear hdm;have kO:=HbO.out;have m0:=kO.x0;have m1:=kO.x1;have m2:=kO.x2;have m3:=kO.x3;have lH:=kO.lt;have P1:=hid (fun (wx:World) (hx:Ext wr wx)=>power_any s1 a1 n1 c1 z1 m (by have:=Hlt.out;have:=Hn.out;omega) wx (H1.out.ext (Hx.out.trans hx)) K HB.out.hK HB.out.f1 (fun i hi=>HB.out.p1 i (by have:=Hlt.out;omega)));have P2:=hid (fun (wx:World) (hx:Ext wr wx)=>power_any s2 a2 n2 c2 z2 (n-m) (by have:=Hlt.out;have:=Hn.out;omega) wx (H2.out.ext (Hx.out.trans hx)) K HB.out.hK HB.out.f2 (fun i hi=>HB.out.p2 i (by have:=Hlt.out;omega)));have F1:=hid (HB.out.p1 m Hlt.out);have F2:=hid (HB.out.p2 (n-m) (by have:=Hlt.out;omega));have K':=HB.out.hK;clear kO
  go_cut [9] from 22 to 32 (fun s9 wx=>∃ U,U=wx/\∃ G,s9=.pointer (some ⟨G,0,none⟩)/\VarI U G (z1 ^ m*z2 ^ (n-m))/\wr.heap.size<=G/\Ext wr U)
  case first =>
   have HS:∀ w',Ext wr w'->w'.heap[H]?=some (.cells #[.int .i64 s1,.slice a1 n1 c1,.int .i64 s2,.slice a2 n2 c2,.int .i64 s3,.slice a3 n3 c3] 60 (0,0)):=fun w' hx=>(HbO.out.ext hx).row
   clear m0 m1 m2 m3;have he0:Ext wr wr.drew:=qG (Ext.refl _);refine wp_region_held (S:=fun w'=>w'.heap[H]?=some (.cells #[.int .i64 s1,.slice a1 n1 c1,.int .i64 s2,.slice a2 n2 c2,.int .i64 s3,.slice a3 n3 c3] 60 (0,0))) (by kernel_rfl) ?_;generalize hops:(#[_,_,_,_,_,_,_,_,_,_,_,_,_]:Array Oper)=ops
   have hA:FlsA Tryz.prog ops [⟨11,9,54,#[.int .i64 0,.slice none 0 0]⟩]:=by
    subst hops;exact .of1 ⟨_,rfl,rfl,fun _=>rfl,fun _ _=>by kernel_rfl⟩
   subst hops;refine FloA.start [⟨11,9,54,#[.int .i64 0,.slice none 0 0]⟩] 13 12 13 (.move HS he0 0 22 (ptrA H) rfl (.take HS he0 1 23 (.agg #[.int .i64 s1,.slice a1 n1 c1]) rfl (fun _ _ h=>exec_midA 0 [.int .i64 s1,.slice a1 n1 c1] h Tryz.underlying54 in_info) (.move HS he0 2 24 (.int .i64 (m:Int)) rfl (.move HS he0 4 26 (.pointer (some ⟨H,2,none⟩)) rfl (.take HS he0 5 27 (.agg #[.int .i64 s2,.slice a2 n2 c2]) rfl (fun _ _ h=>exec_midA 2 [.int .i64 s2,.slice a2 n2 c2] h Tryz.underlying54 in_info) (.move HS he0 6 28 (.int .i64 (n:Int)) rfl (.move HS he0 7 29 (.int .i64 (m:Int)) rfl (.take HS he0 8 30 (.int .i64 ((n-m:Nat):Int)) rfl (fun _ _ _=>by rw [<-wk2];kernel_rfl) ?_))))))));refine .call hA HS he0 3 25 rfl _ _ (fun wx hx=>(P1.out wx (he0.trans hx)).mono fun _ _ h=>h.val) ?_;rintro _ wa ⟨s7,a7,n7,c7,rfl,K7⟩ hqa;have hea:=he0.trans hqa;refine .call hA HS hea 9 31 rfl _ _ (fun wx hx=>(P2.out wx (hea.trans hx)).mono fun _ _ h=>h.val) ?_;rintro _ wb ⟨s8,a8,n8,c8,rfl,K8⟩ hqb;have heb:=hea.trans hqb;refine .call hA HS heb 10 32 rfl _ _ (fun wx hx=>(Mul_any s7 s8 a7 a8 n7 c7 n8 c8 (z1 ^ m) (z2 ^ (n-m)) wx (K7.ext (hqb.trans hx)) (K8.ext hx) K K' F1.out F2.out).mono fun _ _ h=>IRet.val h) ?_;rintro _ wc ⟨s9,a9,n9,c9,rfl,K9⟩ hqc;have hec:=heb.trans hqc;refine .done1 hA HS hec ?_;intro wy hy G hG;have hey:=hec.trans hy;simp only [fbA,List.foldr,sx0,sx1,sx2,ptrA];refine anyH_oneA (i:=12) (by kernel_rfl) rfl (fun Kk hKk=>?_);refine stepK_storeRowC rfl rfl 54 _ _ rfl G #[.int .i64 s9,.slice a9 n9 c9] (by kernel_rfl) (by kernel_rfl) 54 _ hG.2 in_info rfl (by kernel_rfl) ?_;have Hfe:=Lh (ext_onlyC hey (setRow_onlyC wy G #[.int .i64 s9,.slice a9 n9 c9]) hG.1);refine hKk.out _ _ (HS _ Hfe.out) ?_;refine wpAnyH_done (by kernel_rfl) ?_ _;have Hfin:=Lh (vari_put hG.2 (K9.ext hy));have HG:=Lh hG.1;generalize wy.setRow G #[.int .i64 s9,.slice a9 n9 c9]=wZ at *;clear hKk Kk hG hey hec heb hea hqc hqb hqa K7 K8 K9 hA hy
   go_wp2_with fail
   go_meet
   exact ⟨_,rfl,G,rfl,Hfin.out,HG.out,Hfe.out⟩
  case rest =>
  obtain ⟨U,rfl,G,rfl,⟨s9,a9,n9,c9,b9,i9⟩,hG,hE9⟩:=hcut;have bS:=Hb4.out.ext hE9;have m0:=bS.c0;have m1:=bS.c1;have m2:=b9.c0;have m3:=b9.c1;have HSum:=hid (Hi4.out.ext hE9);have HI9:=hid i9;have HbS:=hid bS;have HEU:=hid hE9;have hcm:=HB.out.c64 m;have HOf:=hid (fun wx=>(Of_any (cnt m:Int) (by omega) (by omega) wx).mono (R':=IRet wx (cnt m:Int)) fun _ _ ⟨h1,h2,h3⟩=>⟨_,_,_,_,h1,h2,h3⟩);have FC:=hid (HB.out.fc m Hlt.out);have FG:=hid (HB.out.fg m Hlt.out);have FX:=hid (HB.out.fx m Hlt.out);have FS:=hid (HB.out.fs m Hm.out);have K':=HB.out.hK;have HwH:=hid (show w.heap.size<=H+1+1 by have:=HH.out;omega);clear bS b9 i9 hG hE9 hcm
  go_upto_region 7 with fail
  have HSj:=Lh (fun (w':World) (hx:Ext U w')=>(show w'.cell? ⟨H+1+1,0,none⟩=some (.int .i64 s4)/\w'.cell? ⟨H+1+1,1,none⟩=some (.slice a4 n4 c4)/\w'.cell? ⟨G,0,none⟩=some (.int .i64 s9)/\w'.cell? ⟨G,1,none⟩=some (.slice a9 n9 c9) from ⟨cell_ext m0 hx,cell_ext m1 hx,cell_ext m2 hx,cell_ext m3 hx⟩));clear m0 m1 m2 m3;have G_:Ext U U.drew:=qG (Ext.refl _);refine wp_region_K 6 (fun w'=>w'.cell? ⟨H+1+1,0,none⟩=some (.int .i64 s4)/\w'.cell? ⟨H+1+1,1,none⟩=some (.slice a4 n4 c4)/\w'.cell? ⟨G,0,none⟩=some (.int .i64 s9)/\w'.cell? ⟨G,1,none⟩=some (.slice a9 n9 c9)) (by kernel_rfl) ?_
  show anyK _ _ _ _ _ _ 7 #[false,false,false,false,false,false,false] _ _
  refine kU 0 7 rfl (HSj.out _ G_) ?_
  show anyK _ _ _ _ _ _ _ _ (Act.put _ (some 33) _) _
  simp only [Act.put,sx0,sx1,sx2];refine kU 1 7 rfl (HSj.out _ G_) ?_
  show anyK _ _ _ _ _ _ _ _ (Act.put _ (some 34) _) _
  simp only [Act.put,sx0,sx1,sx2];refine kU 3 7 rfl (HSj.out _ G_) ?_
  show anyK _ _ _ _ _ _ _ _ (Act.put _ (some 36) _) _
  simp only [Act.put,sx0,sx1,sx2];refine anyK_one (i:=2) (by kernel_rfl) rfl (fun Kk hKk=>?_)
  go_simp
  (go_at_call 56;refine (HOf.out _).mono ?_;rintro e wC0 ⟨sv0,ov0,mv0,jv0,rfl,Kv0,hy⟩)
  have EI0:Ext U wC0:=(G_).trans hy;clear hy
  go_wp2_with fail
  refine hKk.out _ _ (fun _=>HSj.out _ EI0) ?_;clear hKk Kk;simp only [sx0,sx1,sx2];refine anyK_one (i:=4) (by kernel_rfl) rfl (fun Kk hKk=>?_)
  go_simp
  (go_at_call 59;refine (Mul_any sv0 s9 ov0 a9 mv0 jv0 n9 c9 (cnt m:Int) (z1 ^ m*z2 ^ (n-m)) _ Kv0 (HI9.out.ext EI0) K K' FC.out FG.out).mono ?_;rintro e wC1 ⟨sv1,ov1,mv1,jv1,rfl,Kv1,hy⟩)
  have EI1:Ext U wC1:=(EI0).trans hy;have Kv0:=Kv0.ext hy;clear hy
  go_wp2_with fail
  refine hKk.out _ _ (fun _=>HSj.out _ EI1) ?_;clear hKk Kk;simp only [sx0,sx1,sx2];refine anyK_one (i:=5) (by kernel_rfl) rfl (fun Kk hKk=>?_)
  go_simp
  (go_at_call 62;refine (Add_any s4 sv1 a4 ov1 n4 c4 mv1 jv1 (gsm cnt z1 z2 n m) (cnt m*(z1 ^ m*z2 ^ (n-m))) _ (HSum.out.ext EI1) Kv1 K K' FS.out FX.out).mono ?_;rintro e wC2 ⟨sv2,ov2,mv2,jv2,rfl,Kv2,hy⟩)
  have EI2:Ext U wC2:=(EI1).trans hy;have Kv0:=Kv0.ext hy;have Kv1:=Kv1.ext hy;clear hy
  go_wp2_with fail
  refine hKk.out _ _ (fun _=>HSj.out _ EI2) ?_;clear hKk Kk;simp only [sx0,sx1,sx2];refine anyK_one (i:=6) (by kernel_rfl) rfl (fun Kk hKk=>?_);have rS:=rowEC HbS.out.row EI2;refine stepK_storeRowC rfl rfl 54 _ _ rfl (H+1+1) #[.int .i64 sv2,.slice ov2 mv2 jv2] rfl rfl 54 _ rS in_info rfl (by kernel_rfl) ?_;refine hKk.out _ _ (fun h=>Bool.noConfusion (show true=false from h)) ?_;clear hKk Kk;simp only [sx0,sx1,sx2];refine anyK_done (by kernel_rfl) ?_ _;rw [gsm_step Hlt.out] at Kv2;have Hfin:=Lh (vari_put rS Kv2);have hO:=setRow_onlyC wC2 (H+1+1) #[.int .i64 sv2,.slice ov2 mv2 jv2];have EE:=HEU.out.trans EI2;have Hfe:=Lh (ext_onlyC (Hx.out.trans EE) hO HwH.out);have Hfo:=Lh ((HbO.out.ext EE).only hO (by omega));have Hfq:=Lh ((HbR.out.ext EE).onlyI hO (by omega));clear hO EE rS;generalize (wC2).setRow (H+1+1) #[.int .i64 sv2,.slice ov2 mv2 jv2]=wZ at *
  go_wp2_with fail
  go_roundg (n+1-(m+1))
  case measure=>have:=Hkk.out;have:=Hlt.out;omega
  case rel=>exact ⟨m+1,rfl,by have:=Hlt.out;omega,rfl,Hfin.out,Hfo.out,Hfq.out,Hfe.out⟩
theorem err_len:∀ n,n<=6->(errP n).length=4 ^ n:=by
 intro n hn
 match n with
 | 0=>decide +kernel
 | 1=>decide +kernel
 | 2=>decide +kernel
 | 3=>decide +kernel
 | 4=>decide +kernel
 | 5=>decide +kernel
 | 6=>decide +kernel
 | k+7=>omega
theorem cnt_le {n:Nat} (hn:n<=6) (gens:List (List UInt8)) (w:Nat):cntE n gens w<=4096:=by
 refine qL (List.countP_le_length) ?_;rw [err_len n hn];exact qL (qY (by decide) hn) (by decide)
theorem pow_leF {a b:Int} (ha:0<=a) (hab:a<=b):∀ k:Nat,a ^ k<=b ^ k
 | 0=>by rw [Int.pow_zero,Int.pow_zero];omega
 | k+1=>by rw [Int.pow_succ,Int.pow_succ];exact Int.mul_le_mul (pow_leF ha hab k) hab ha (by have:=pow_nnF (show 0<=b by omega) k;omega)
theorem pow_upF {b:Int} (hb:1<=b) {i n:Nat} (h:i<=n):b ^ i<=b ^ n:=by
 obtain ⟨d,rfl⟩:=Nat.exists_eq_add_of_le h;rw [Int.pow_add];have h1:=pow_posF (show 0<b by omega) i;have h2:=pow_posF (show 0<b by omega) d;have h3:=Int.mul_le_mul_of_nonneg_left (show 1<=b ^ d by omega) (show 0<=b ^ i by omega);rw [Int.mul_one] at h3;exact h3
theorem chB_of {K n M:Nat} {cnt:Nat->Nat} {a b:Int} (hK:K<=4194304) (hK1:1<=K) (ha:0<=a) (hv:0<=b-a*3) (hb:0<b) (hn:n<=6) (hc:∀ i,cnt i<=4096) (hM:b ^ n<=(M:Int)) (hbM:b<=(M:Int)) (hfit:∀ z:Int,0<=z->z<=28672*(M:Int)->Fit K z) :
  ChB K n cnt a (b-a*3) b:=by
 have hab:a<=b:=by omega
 have hvb:b-a*3<=b:=by omega
 have h1:∀ z:Int,0<=z->z<=b ^ n->Fit K z:=fun z h0 hz=>hfit z h0 (by omega)
 have hpb:∀ i,i<=n->b ^ i<=b ^ n:=fun i hi=>pow_upF (by omega) hi
 have hg:∀ i,i<=n->0<=a ^ i*(b-a*3) ^ (n-i)/\a ^ i*(b-a*3) ^ (n-i)<=b ^ n:=fun i hi=>by
  rw [<-gtm_all hi];exact gtm_le ha hab hv hvb i n
 refine ⟨hK,hK1,hfit a ha (by omega),hfit _ hv (by omega),hfit b (by omega) (by omega),fun i hi=>h1 _ (pow_nnF ha i) (Int.le_trans (pow_leF ha hab i) (hpb i hi)),fun i hi=>h1 _ (pow_nnF hv i) (Int.le_trans (pow_leF hv hvb i) (hpb i hi)),fun i hi=>h1 _ (pow_nnF (by omega) i) (hpb i hi),fun i _=>hfit _ (by omega) (by have:=hc i;omega),fun i=>by have:=hc i;omega,fun i hi=>h1 _ (hg i hi).1 (hg i hi).2,fun i hi=>?_,fun m hm=>?_⟩
 ·obtain ⟨h2,h3⟩:=hg i hi
  refine hfit _ (Int.mul_nonneg (by omega) h2) ?_;have h4:(cnt i:Int)*(a ^ i*(b-a*3) ^ (n-i))<=4096*(M:Int):=Int.mul_le_mul (by have:=hc i;omega) (by omega) h2 (by omega);omega
 ·obtain ⟨h2,h3⟩:=gsm_le ha hab hv hvb n 4096 hc m
  refine hfit _ h2 (Int.le_trans h3 ?_);have h5:=pow_nnF (show 0<=b by omega) n;exact Int.mul_le_mul (by omega) hM h5 (by omega)
theorem limp (k l:Nat):(10 ^ k) ^ l<=2 ^ (4*k*l):=by
 rw [Nat.pow_mul 2 (4*k) l,Nat.pow_mul 2 4 k];exact Nat.pow_le_pow_left (Nat.pow_le_pow_left (by decide) k) l
theorem bigp (k l m:Nat) (h:4*k*l+15<=64*m):28672*(10 ^ k) ^ l<B64 ^ m:=by
 have hB:B64=2 ^ 64:=by decide
 rw [hB,show ((2:Nat) ^ 64) ^ m=2 ^ (64*m) from (Nat.pow_mul 2 64 m).symm];have h1:=limp k l;have h2:2 ^ (4*k*l+15)<=2 ^ (64*m):=qY (by decide) h;have h3:0<2 ^ (4*k*l):=jF (by decide);rw [jS] at h2;generalize 2 ^ (4*k*l)=p at *;generalize 2 ^ (64*m)=q at *;generalize (10 ^ k) ^ l=r at *;omega
theorem fitK:∃ K,K<=100000/\1<=K/\∀ z:Int,0<=z->z<=28672*((Lim ^ 6:Nat):Int)->Fit K z:=by
 unfold Lim;have hb:=bigp limN 6 400 (by unfold limN;decide);generalize (10 ^ limN) ^ 6=L at *;refine ⟨400,by decide,by decide,fun z h0 hz=>?_⟩;unfold Fit;generalize B64 ^ 400=q at *;omega
theorem pow_limF {b:Int} {n:Nat} (hb:0<b) (hl:b.natAbs<Lim) (hn:n<=6):b ^ n<=((Lim ^ 6:Nat):Int):=by
 obtain ⟨L,hL⟩:∃ L,Lim=L:=⟨_,rfl⟩;rw [hL] at hl ⊢;rw [Int.natCast_pow];exact Int.le_trans (pow_upF (by omega) hn) (pow_leF (by omega) (by omega) 6)
theorem QBx.only {W W':World} {g k:Nat} {s:Int} {a:Option Addr} {n c:Nat} {s':Int} {a':Option Addr} {n' c':Nat} (h:QBx W g s a n c s' a' n' c') (hO:Only k W W') (hne:g≠k):QBx W' g s a n c s' a' n' c':=⟨(hO.block _ hne).trans h.row⟩
theorem itoa_len {K:Nat} {z:Int} (hK1:1<=K) (hf:Fit K z):(Lib.itoa z).length<=64*K+1:=by
 have h1:(Lib.itoa z).length=(txt z).length:=by unfold txt;rw [jY]
 have h2:(txt z).length-sgl (txt z)=(decN z.natAbs).length:=by rw [<-txt_drop,qF]
 have h3:=sgl_le (txt z)
 have h4:z.natAbs<10 ^ (64*K):=by
  refine qK hf ?_;rw [B64_two,<-Nat.pow_mul];exact Nat.pow_le_pow_left (by decide) _
 have h5:=nDigits_le (64*K) z.natAbs (by omega) h4;rw [decN_length] at h2;omega
def ftx (P Q:Int):ByteArray:=if Q=1 then ⟨(Lib.itoa P).toArray⟩ else ⟨(Lib.itoa P).toArray⟩++⟨#[47]⟩++⟨(Lib.itoa Q).toArray⟩
theorem QText_any (s1:Int) (a1:Option Addr) (n1 c1:Nat) (s1x:Int) (a1x:Option Addr) (n1x c1x:Nat) (P Q:Int) (w:World) (h1:IsFr w s1 a1 n1 c1 s1x a1x n1x c1x P Q) (K:Nat) (hK:K<=100000) (hK1:1<=K) (fP:Fit K P) (fQ:Fit K Q) (htab:Ten w) :
  Calls Tryz.prog 20 #[.agg #[.int .i64 s1,.slice a1 n1 c1,.int .i64 s1x,.slice a1x n1x c1x]] w fun e w'=>e=.returned (.string (ftx P Q))/\Ext w w':=by
 have FP:=hid fP;have FQ:=hid fQ;have Htab:=hid htab;have H1:=hid h1
 have F1:Hid (Fit K 1):=by
  show _<_
  exact qK (by rw [B64_eq];decide) (qY (n:=B64) (by rw [B64_eq];decide) hK1)
 clear fP fQ htab h1;obtain ⟨k,hk⟩:∃ k,cmp3 Q 1=k:=⟨_,rfl⟩;have Ek:=hid hk;have HOf:=hid (fun wx=>Of_any 1 (by omega) (by omega) wx)
 have hK4:K<=4194304:=by omega
 go_enter Tryz.func20,Tryz.ntmps20
 go_wp2_with fail
 have hE:Ext w (w.alloc (.cells #[.int .i64 s1,.slice a1 n1 c1,.int .i64 s1x,.slice a1x n1x c1x] 56)):=Ext.alloc w (.cells #[.int .i64 s1,.slice a1 n1 c1,.int .i64 s1x,.slice a1x n1x c1x] 56);generalize w.alloc (.cells #[.int .i64 s1,.slice a1 n1 c1,.int .i64 s1x,.slice a1x n1x c1x] 56)=W0 at *;refine (Parts_fr s1 s1x a1 a1x n1 c1 n1x c1x P Q W0 (H1.out.ext hE)).mono ?_;rintro e u1 ⟨s3,a3,n3,c3,s4,a4,n4,c4,rfl,I3,I4,hx1⟩;have hq1:=(Ext.alloc u1 (.cells #[.int .i64 s3,.slice a3 n3 c3] 54)).then (.cells #[.int .i64 s4,.slice a4 n4 c4] 54);have b3:=(box_new u1 s3 a3 n3 c3).ext (Ext.alloc _ (.cells #[.int .i64 s4,.slice a4 n4 c4] 54));have b4:=box_new (u1.alloc (.cells #[.int .i64 s3,.slice a3 n3 c3] 54)) s4 a4 n4 c4;rw [show (u1.alloc (.cells #[.int .i64 s3,.slice a3 n3 c3] 54)).heap.size=u1.heap.size+1 from by simp] at b4;have IA:=I3.ext hq1;have IB:=I4.ext hq1;have HE1:=hid (hE.trans (hx1.trans hq1));have hlA:=IA.len FP.out;have hlB:=IB.len FQ.out;clear I3 I4 hq1 hx1
 go_wp2_with fail
 generalize (u1.alloc (.cells #[.int .i64 s3,.slice a3 n3 c3] 54)).alloc (.cells #[.int .i64 s4,.slice a4 n4 c4] 54)=W1 at *;generalize u1.heap.size=A at *;have m0:=b3.c0;have m1:=b3.c1;have m2:=b4.c0;have m3:=b4.c1;have lA:=b3.lt;have lB:=b4.lt;clear b3 b4;have h0d:Ext W1 W1.drew:=qG (Ext.refl _)
 go_region_held3 (fun w'=>w'.cell? ⟨A+1,0,none⟩=some (.int .i64 s4)/\w'.cell? ⟨A+1,1,none⟩=some (.slice a4 n4 c4))
  (exact ⟨cellKeep (W:=W1) (by assumption) lB m2,cellKeep (W:=W1) (by assumption) lB m3⟩)
  (first
   | (have _:=qv0;go_at_call 55;refine (Cmp_is k (IB.ext hv0) Kv0 K hK4 FQ.out F1.out Ek.out).mono ?_;rintro e v1 ⟨rfl,qv1⟩;have hv1:Ext W1 v1:=hv0.trans qv1)
   | (go_at_call 56;refine (HOf.out _).mono ?_;rintro e v0 ⟨rfl,Kv0,qv0⟩;have hv0:Ext W1 v0:=Ext.trans (by assumption) qv0))
 have IA:=IA.ext hv1;have IB:=IB.ext hv1;have m0:=cellKeep hv1 lA m0;have m1:=cellKeep hv1 lA m1;have m2:=cellKeep hv1 lB m2;have m3:=cellKeep hv1 lB m3;have lA:=qK lA hv1.size;have lB:=qK lB hv1.size;have HE2:=hid (HE1.out.trans hv1);clear hv0 qv0 hv1 qv1 Kv0 HE1 h0d
 by_cases hq:Q=1
 ·have hk0:k=0:=by rw [<-hk,hq];decide
  subst hk0
  have Hft:Hid (ftx P Q=⟨(Lib.itoa P).toArray⟩):=by show _=_;unfold ftx;rw [qU hq]
  clear hk hq Ek
  go_wp2_with fail
  refine (Text_any s3 a3 n3 c3 P v1 IA (by omega) (tab_ext Htab.out HE2.out)).mono ?_;rintro e v2 ⟨rfl,hx2⟩
  go_wp2_with fail
  go_ret
  exact ⟨by show _=_;rw [Hft.out];rfl,HE2.out.trans hx2⟩
 ·have hk0:(k == 0)=false:=by
   rw [qV];intro h0;rw [h0] at hk;unfold cmp3 at hk
   by_cases h1:Q<1
   ·rw [qU h1] at hk;omega
   ·rw [qE h1] at hk
    by_cases h2:1<Q
    ·rw [qU h2] at hk;omega
    ·omega
  have Hft:Hid (ftx P Q=⟨(Lib.itoa P).toArray⟩++⟨#[47]⟩++⟨(Lib.itoa Q).toArray⟩):=by show _=_;unfold ftx;rw [qE hq]
  rw [hk0];have hs1:=itoa_len hK1 FP.out;have hs2:=itoa_len hK1 FQ.out
  have ht1:¬ 9223372036854775807<(Lib.itoa P).length+1:=by omega
  have ht2:¬ 9223372036854775807<(Lib.itoa P).length+1+(Lib.itoa Q).length:=by omega
  clear hk hq Ek hk0 hs1 hs2;have h0d:Ext v1 v1.drew:=qG (Ext.refl _)
  go_wp2_with fail
  go_region_held3 (fun w'=>w'.cell? ⟨A,0,none⟩=some (.int .i64 s3)/\w'.cell? ⟨A,1,none⟩=some (.slice a3 n3 c3)/\w'.cell? ⟨A+1,0,none⟩=some (.int .i64 s4)/\w'.cell? ⟨A+1,1,none⟩=some (.slice a4 n4 c4))
   (exact ⟨cellKeep (W:=v1) (by assumption) lA m0,cellKeep (W:=v1) (by assumption) lA m1,cellKeep (W:=v1) (by assumption) lB m2,cellKeep (W:=v1) (by assumption) lB m3⟩)
   (first
    | (have _:=qr0;go_at_call 70;refine (Text_any s4 a4 n4 c4 Q _ (IB.ext hr0) (by omega) (tab_ext Htab.out (HE2.out.trans hr0))).mono ?_;rintro e r1 ⟨rfl,qr1⟩;have hr1:Ext v1 r1:=hr0.trans qr1)
    | (go_at_call 70;refine (Text_any s3 a3 n3 c3 P _ (IA.ext (by assumption)) (by omega) (tab_ext Htab.out (HE2.out.trans (by assumption)))).mono ?_;rintro e r0 ⟨rfl,qr0⟩;have hr0:Ext v1 r0:=Ext.trans (by assumption) qr0))
  go_wp2_with fail
  go_ret
  exact ⟨by show _=_;rw [Hft.out];rfl,HE2.out.trans hr1⟩
end Go.Proofs.YtjfomkoedgipjaaGreatDoor
