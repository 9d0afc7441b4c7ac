/-
  A region that draws its order, calls one function behind the other, and makes variables that wait for nothing: each may be made ahead of, between or behind the calls. What is asked of a step is asked once, in every world that extends the one at hand, whatever has been made. The program: the product of two Paulis that commute. The program: the product of two Paulis. The program: the product of two Paulis that commute.
-/
import Derived.OrdersHeld
import Derived.ProofKit
import Derived.RegionTactic
import Derived.Test.YtlechhmhmakgpaaGreatDoorS15Lg
namespace Go.Proofs.YtlechhmhmakgpaaGreatDoor
set_option maxRecDepth 100000
set_option maxHeartbeats 4000000
open Go.RowKit
structure Fl where
 j:Nat
 d:Nat
 ty:TypeId
 z:Array Value
def dnA (N:Nat) (D:List Nat):Array Bool:=((List.range N).map fun i=>D.contains i).toArray
def fbA (B:Array Value) (L:List (Nat × Value)):Act:=⟨L.foldr (fun p a=>a.setIfInBounds p.1 p.2) B,[]⟩
theorem dnA_set (N j:Nat) (D:List Nat):(dnA N D).setIfInBounds j true=dnA N (j :: D):=by
 apply Array.ext_getElem?
 intro i;unfold dnA;rw [List.setIfInBounds_toArray,List.getElem?_toArray,List.getElem?_toArray,List.getElem?_set,List.getElem?_map,List.getElem?_map]
 by_cases hN:i<N
 ·rw [List.getElem?_range hN]
  by_cases h:j=i
  ·subst h;simp [hN]
  ·rw [if_neg h]
   have h':¬ i=j:=fun e=>h e.symm
   simp [h']
 ·rw [List.getElem?_eq_none (by simpa using hN)]
  simp only [Option.map_none,List.length_map,List.length_range]
  split
  ·rw [if_neg (by omega)]
  ·rfl
theorem dnA_congr (N:Nat) {D E:List Nat} (h:∀ i,i ∈ D↔i ∈ E):dnA N D=dnA N E:=by
 unfold dnA
 congr 1
 refine List.map_congr_left fun i _=>?_
 rw [Bool.eq_iff_iff,List.contains_iff_mem,List.contains_iff_mem,h]
def subsA:List Fl->List (List Fl)
 | []=>[[]]
 | f :: r=>subsA r++(subsA r).map (f :: ·)
theorem subsA_filter (p:Fl->Bool):∀ fs:List Fl,fs.filter p ∈ subsA fs
 | []=>by simp [subsA]
 | f :: r=>by
  have h:=subsA_filter p r;unfold subsA;rw [List.filter_cons]
  split
  ·exact List.mem_append_right _ (List.mem_map.2 ⟨_,h,rfl⟩)
  ·exact List.mem_append_left _ h
def chkC (md:Region.Mode) (ops:Array Oper) (fs:List Fl) (N:Nat) (D:List Nat) (i:Option Nat):Bool :=
 (subsA fs).all fun s=>let r:=Region.ready md ops (dnA N (s.map Fl.j++D));(i.isNone && s.length == fs.length) || (!r.isEmpty && r.all fun k=>decide (i=some k) || fs.any fun f=>k == f.j && !(s.map Fl.j).contains k)
def chkT (md:Region.Mode) (ops:Array Oper) (fs:List Fl) (N:Nat) (D:List Nat) (i:Nat):Bool :=
 (subsA fs).all fun s=>Region.free md ops (dnA N (s.map Fl.j++D)) i && (Region.ready md ops (dnA N (s.map Fl.j++D))).contains i
def NewA (W0 w:World) (f:Fl) (G:Nat):Prop:=W0.heap.size<=G/\w.heap[G]?=some (.cells f.z f.ty (0,0))
theorem NewA.ext {W0 w w':World} {f:Fl} {G:Nat} (h:NewA W0 w f G) (k:Ext w w'):NewA W0 w' f G:=⟨h.1,(k.block _ (gS.1 h.2).1).trans h.2⟩
theorem NewA.lt {W0 w:World} {f:Fl} {G:Nat} (h:NewA W0 w f G):G<w.heap.size:=(gS.1 h.2).1
abbrev ptrA (G:Nat):Value:=.pointer (some ⟨G,0,none⟩)
theorem extA (w:World) (o:Obj):Ext w (w.alloc o):=(Below.refl _ _).alloc (Nat.le_refl _) o
structure OkA (W0 w:World) (fs:List Fl) (st:Nat->Option Nat):Prop where
 new:∀ f ∈ fs,∀ G,st f.d=some G->NewA W0 w f G
 ne:∀ f ∈ fs,∀ g ∈ fs,f.d≠g.d->∀ G K,st f.d=some G->st g.d=some K->G≠K
theorem OkA.ext {W0 w w':World} {fs:List Fl} {st:Nat->Option Nat} (h:OkA W0 w fs st) (k:Ext w w'):OkA W0 w' fs st:=⟨fun f hf G e=>(h.new f hf G e).ext k,h.ne⟩
def valA (B:Array Value) (st:Nat->Option Nat) (d:Nat):Value:=match st d with
 | none=>B.getD d undef
 | some G=>ptrA G
def doneA (fs:List Fl) (st:Nat->Option Nat):List Fl:=fs.filter fun f=>(st f.d).isSome
def leftA (fs:List Fl) (st:Nat->Option Nat):Nat:=(fs.filter fun f=>(st f.d).isNone).length
def frA (fs:List Fl) (B:Array Value) (L:List (Nat × Value)) (T:Nat->Value):Act:=fbA B (fs.map (fun f=>(f.d,T f.d))++L)
theorem foldA_size (B:Array Value):∀ L:List (Nat × Value),(L.foldr (fun p a=>a.setIfInBounds p.1 p.2) B).size=B.size
 | []=>rfl
 | p :: r=>by rw [List.foldr_cons,Array.size_setIfInBounds,foldA_size B r]
theorem frA_get (fs:List Fl) (B:Array Value) (L:List (Nat × Value)) (T:Nat->Value) (i:Nat):(frA fs B L T).tmps[i]?=if fs.any (fun f=>f.d == i) then (if i<B.size then some (T i) else none) else (fbA B L).tmps[i]?:=by
 unfold frA fbA
 induction fs with
 | nil=>rfl
 | cons g r ih =>
  simp only [List.map_cons,List.cons_append,List.foldr_cons,List.any_cons,Array.getElem?_setIfInBounds,foldA_size] at ih ⊢
  by_cases h:g.d=i
  ·simp [h]
  ·rw [if_neg h,ih]
   simp [h]
theorem frA_put {fs:List Fl} {f:Fl} (hf:f ∈ fs) (B:Array Value) (L:List (Nat × Value)) (T:Nat->Value) (G:Nat):(frA fs B L T).put (some f.d) (ptrA G)=frA fs B L (fun e=>if e=f.d then ptrA G else T e):=by
 have e:((frA fs B L T).put (some f.d) (ptrA G)).tmps=(frA fs B L (fun e=>if e=f.d then ptrA G else T e)).tmps:=by
  apply Array.ext_getElem?
  intro i
  show ((frA fs B L T).tmps.setIfInBounds f.d (ptrA G))[i]?=_
  have hs:(frA fs B L T).tmps.size=B.size:=foldA_size B _;rw [Array.getElem?_setIfInBounds,hs,frA_get,frA_get]
  by_cases h:f.d=i
  ·have ha:fs.any (fun g=>g.d == i)=true:=List.any_eq_true.2 ⟨f,hf,by rw [h];exact beq_self_eq_true _⟩
   rw [if_pos h,if_pos ha,if_pos h.symm,h]
  ·have h':¬ i=f.d:=fun e=>h e.symm
   rw [if_neg h,if_neg h']
 have e2:∀ a b:Act,a.tmps=b.tmps->a.defers=b.defers->a=b:=fun a b h1 h2=>by cases a;cases b;cases h1;cases h2;rfl
 exact e2 _ _ e rfl
def updA (st:Nat->Option Nat) (d G:Nat):Nat->Option Nat:=fun e=>if e=d then some G else st e
theorem valA_upd (B:Array Value) (st:Nat->Option Nat) (d G:Nat):valA B (updA st d G)=fun e=>if e=d then ptrA G else valA B st e:=by
 funext e
 unfold valA updA
 by_cases h:e=d
 ·rw [if_pos h,if_pos h]
 ·rw [if_neg h,if_neg h]
def IsAllA (P:Program) (ops:Array Oper) (f:Fl):Prop :=
 ∃ o,ops[f.j]?=some o/\o.dst=some f.d/\(∀ a:Act,Region.wanted o (yielded ops a.tmps)=true)/\∀ (a:Act) (w:World),(execOp a.eval o).run P w=.ok (.value (ptrA w.heap.size)) (w.alloc (.cells f.z f.ty))
structure FlsA (P:Program) (ops:Array Oper) (fs:List Fl):Prop where
 all:∀ f ∈ fs,IsAllA P ops f
 one:(fs.map Fl.d).Nodup
theorem FlsA.of1 {P:Program} {ops:Array Oper} {f:Fl} (h:IsAllA P ops f):FlsA P ops [f]:=⟨fun g hg=>by rw [List.mem_singleton.1 hg];exact h,by simp⟩
section
variable {P:Program} {md:Region.Mode} {ops:Array Oper} {Q:Exit->Act->World->Prop} {S:World->Prop}
theorem wpOp_allA {f:Fl} (hA:IsAllA P ops f) {K:Act->World->Prop} {a:Act} {w:World} (h:K (a.put (some f.d) (ptrA w.heap.size)) (w.alloc (.cells f.z f.ty))):wpOp P ops Q f.j K a w:=by
 obtain ⟨o,ho,hd,hw,hrun⟩:=hA
 refine wpOp_step ho fun K' hK=>?_
 rw [if_pos (hw a)];unfold Oper.wp;rw [hrun,Oper.upon_value,hd];exact hK _ _ h
theorem wpOp_callA {i:Nat} {o:Oper} {a:Act} {w:World} (ho:ops[i]?=some o) (hw:Region.wanted o (yielded ops a.tmps)=true) {f:FuncId} {args:Array Value}
  (hrun:(execOp a.eval o).run P w=.ok (.enter f args) w) {R:Value->World->Prop} (hc:Calls P f args w fun e w'=>∃ v,e=.returned v/\R v w') {K:Act->World->Prop} (h:∀ v w',R v w'->K (a.put o.dst v) w'):wpOp P ops Q i K a w:=by
 refine wpOp_step ho fun K' hK=>?_
 rw [if_pos hw];unfold Oper.wp;rw [hrun,Oper.upon_enter];refine hc.mono ?_;rintro e w' ⟨v,rfl,hv⟩;exact hK _ _ (h v w' hv)
def FloA (P:Program) (md:Region.Mode) (ops:Array Oper) (Q:Exit->Act->World->Prop) (S:World->Prop) (W0:World) (fs:List Fl) (N n:Nat) (D:List Nat) (B:Array Value) (L:List (Nat × Value)) (w:World):Prop :=
 ∀ wx,Ext w wx->∀ st,OkA W0 wx fs st->wpAnyH P md ops Q S (n+leftA fs st) (dnA N ((doneA fs st).map Fl.j++D)) (frA fs B L (valA B st)) wx
theorem FloA.start (fs:List Fl) (N n m:Nat) {W0 w:World} {l:Array Bool} {a:Act} (h:FloA P md ops Q S W0 fs N n [] a.tmps [] w) (hm:n+fs.length=m:=by rfl) (hl:l=dnA N []:=by kernel_rfl) (ha:a=frA fs a.tmps [] (fun d=>a.tmps.getD d undef):=by kernel_rfl):wpAnyH P md ops Q S m l a w:=by
 have h0:=h w (Ext.refl _) (fun _=>none) ⟨fun _ _ _ e=>(by cases e),fun _ _ _ _ _ _ _ e=>(by cases e)⟩
 have e1:leftA fs (fun _=>none)=fs.length:=by unfold leftA;exact congrArg List.length (List.filter_eq_self.2 (fun _ _=>rfl))
 have e2:doneA fs (fun _=>none)=[]:=by unfold doneA;exact List.filter_eq_nil_iff.2 (fun _ _=>by simp)
 rw [e1,e2,hm] at h0;rw [hl,ha];exact h0
theorem left_upd {st:Nat->Option Nat} {f:Fl} (h0:st f.d=none) (G:Nat):∀ {fs:List Fl},(fs.map Fl.d).Nodup->f ∈ fs->leftA fs (updA st f.d G)+1=leftA fs st
 | [],_,hf=>by cases hf
 | g :: r,hn,hf=>by
  rw [List.map_cons,List.nodup_cons] at hn;unfold leftA;rw [List.filter_cons,List.filter_cons]
  by_cases e:g.d=f.d
  ·have h1:(updA st f.d G g.d).isNone=false:=by unfold updA;rw [if_pos e];rfl
   have h2:(st g.d).isNone=true:=by rw [e,h0];rfl
   have h3:r.filter (fun k=>(updA st f.d G k.d).isNone)=r.filter (fun k=>(st k.d).isNone):=by
    refine List.filter_congr fun k hk=>?_
    have:¬ k.d=f.d:=fun e2=>hn.1 (List.mem_map.2 ⟨k,hk,e2.trans e.symm⟩)
    unfold updA;rw [if_neg this]
   rw [h1,h2,h3,if_pos rfl,if_neg (by decide),List.length_cons]
  ·have hr:f ∈ r:=by
    rcases List.mem_cons.1 hf with h | h
    ·exact absurd (by rw [h]) e
    ·exact h
   have h1:(updA st f.d G g.d).isNone=(st g.d).isNone:=by unfold updA;rw [if_neg e]
   have ih:=left_upd h0 G hn.2 hr;unfold leftA at ih;rw [h1]
   split
   ·rw [List.length_cons,List.length_cons];omega
   ·exact ih
theorem fl_one {fs:List Fl} (hn:(fs.map Fl.d).Nodup) {g f:Fl} (hg:g ∈ fs) (hf:f ∈ fs) (e:g.d=f.d):g=f:=by
 obtain ⟨a,ha⟩:=List.getElem?_of_mem hg;obtain ⟨b,hb⟩:=List.getElem?_of_mem hf
 have h2:(fs.map Fl.d)[a]?=some f.d:=by rw [List.getElem?_map,ha,<-e];rfl
 have h3:(fs.map Fl.d)[b]?=some f.d:=by rw [List.getElem?_map,hb];rfl
 have:=(List.getElem?_inj (by rw [List.length_map];exact (List.getElem?_eq_some_iff.1 ha).1) hn).1 (h2.trans h3.symm);subst this;exact Option.some.inj (ha.symm.trans hb)
theorem not_made {fs:List Fl} {st:Nat->Option Nat} {f:Fl} (hf:f ∈ fs) (h:(((fs.filter fun f=>(st f.d).isSome).map Fl.j).contains f.j)=false):st f.d=none:=by
 cases e:st f.d with
 | none=>rfl
 | some G =>
  have h1:f.j ∈ (fs.filter fun f=>(st f.d).isSome).map Fl.j:=List.mem_map.2 ⟨f,List.mem_filter.2 ⟨hf,by rw [e];rfl⟩,rfl⟩;rw [List.contains_iff_mem.2 h1] at h
  cases h
theorem done_upd {fs:List Fl} {st:Nat->Option Nat} {f:Fl} (hn:(fs.map Fl.d).Nodup) (hf:f ∈ fs) (G N:Nat) (D:List Nat):dnA N ((doneA fs (updA st f.d G)).map Fl.j++D)=dnA N (f.j :: ((doneA fs st).map Fl.j++D)):=by
 refine dnA_congr N fun i=>?_
 simp only [List.mem_append,List.mem_map,List.mem_cons,doneA,List.mem_filter]
 constructor
 ·rintro (⟨g,⟨hg,h1⟩,rfl⟩ | h)
  ·by_cases e:g.d=f.d
   ·refine Or.inl ?_
    rw [fl_one hn hg hf e]
   ·refine Or.inr (Or.inl ⟨g,⟨hg,?_⟩,rfl⟩)
    unfold updA at h1;rw [if_neg e] at h1;exact h1
  ·exact Or.inr (Or.inr h)
 ·rintro (rfl | ⟨g,⟨hg,h1⟩,rfl⟩ | h)
  ·exact Or.inl ⟨f,⟨hf,by unfold updA;rw [if_pos rfl];rfl⟩,rfl⟩
  ·refine Or.inl ⟨g,⟨hg,?_⟩,rfl⟩
   unfold updA
   split
   ·rfl
   ·exact h1
  ·exact Or.inr h
theorem FloA.of {W0 w:World} {fs:List Fl} {N n:Nat} {D:List Nat} {B:Array Value} {L:List (Nat × Value)} (hA:FlsA P ops fs) (hS:∀ w',Ext W0 w'->S w') (hw:Ext W0 w) (i:Option Nat)
  (hr:chkC md ops fs N D i=true)
  (hi:∀ wx,Ext w wx->∀ st,OkA W0 wx fs st->∀ k,i=some k->wpOp P ops Q k (fun a' w'=>S w'/\wpAnyH P md ops Q S (n+leftA fs st) ((dnA N ((doneA fs st).map Fl.j++D)).setIfInBounds k true) a' w') (frA fs B L (valA B st)) wx)
  (h0:i=none->∀ wx,Ext w wx->∀ st,OkA W0 wx fs st->leftA fs st=0->wpAnyH P md ops Q S (n+1) (dnA N ((doneA fs st).map Fl.j++D)) (frA fs B L (valA B st)) wx):FloA P md ops Q S W0 fs N (n+1) D B L w:=by
 have key:∀ m wx,Ext w wx->∀ st,OkA W0 wx fs st->leftA fs st=m->wpAnyH P md ops Q S (n+1+m) (dnA N ((doneA fs st).map Fl.j++D)) (frA fs B L (valA B st)) wx:=by
  intro m
  induction m with
  | zero =>
   intro wx hx st hst hm
   cases i with
   | none=>exact h0 rfl wx hx st hst hm
   | some k =>
    have hc:=List.all_eq_true.1 hr _ (subsA_filter (fun f=>(st f.d).isSome) fs);simp only [Option.isNone_some,Bool.false_and,Bool.false_or,Bool.and_eq_true,Bool.not_eq_true'] at hc;refine ⟨fun e=>?_,fun t ht=>?_⟩
    ·have:=hc.1
     unfold doneA at e;rw [e] at this
     cases this
    ·have h1:=List.all_eq_true.1 hc.2 t ht
     rw [Bool.or_eq_true,decide_eq_true_eq,List.any_eq_true] at h1
     rcases h1 with h1 | ⟨f,hf,h2⟩
     ·have:=hi wx hx st hst t h1
      rw [hm] at this;exact this
     ·exfalso
      rw [Bool.and_eq_true,Bool.not_eq_true',beq_iff_eq] at h2;have h3:st f.d=none:=not_made hf (by rw [<-h2.1];exact h2.2);have:=left_upd h3 0 hA.one hf;omega
  | succ m ih =>
   intro wx hx st hst hm;have hc:=List.all_eq_true.1 hr _ (subsA_filter (fun f=>(st f.d).isSome) fs);rw [Bool.or_eq_true,Bool.and_eq_true,Bool.and_eq_true,beq_iff_eq,Bool.not_eq_true'] at hc
   have hc:=hc.resolve_left fun ⟨_,h9⟩=>by
    have h8:=List.length_filter_eq_length_iff.1 h9
    have:leftA fs st=0:=by
     unfold leftA
     rw [List.filter_eq_nil_iff.2 (fun f hf=>by have:=h8 f hf;cases h:st f.d<;>simp_all)]
     rfl
    omega
   have hne:Region.ready md ops (dnA N ((doneA fs st).map Fl.j++D))≠[]:=fun e=>by
    have h9:=hc.1;unfold doneA at e;rw [e] at h9
    cases h9
   refine ⟨fun e=>absurd e hne,fun t ht=>?_⟩;have h1:=List.all_eq_true.1 hc.2 t ht;rw [Bool.or_eq_true,decide_eq_true_eq,List.any_eq_true] at h1
   rcases h1 with h1 | ⟨f,hf,h2⟩
   ·have:=hi wx hx st hst t h1
    rw [hm,show n+(m+1)=(n+1).add m from (show n+(m+1)=n+1+m by omega)] at this;exact this
   ·rw [Bool.and_eq_true,Bool.not_eq_true',beq_iff_eq] at h2
    have h3:st f.d=none:=not_made hf (by rw [<-h2.1];exact h2.2);obtain ⟨ht,_⟩:=h2;subst ht;refine wpOp_allA (hA.all f hf) ?_;have he:=extA wx (.cells f.z f.ty);refine ⟨hS _ ((hw.trans hx).trans he),?_⟩;have hl:=left_upd h3 wx.heap.size hA.one hf;have:=ih _ (hx.trans he) (updA st f.d wx.heap.size) ⟨fun g hg G e=>?_,fun g hg k hk hne G K e1 e2=>?_⟩ (by omega)
    ·rw [dnA_set,frA_put hf,<-valA_upd,<-done_upd hA.one hf wx.heap.size]
     exact this
    ·unfold updA at e
     split at e
     ·rename_i h9
      cases e
      rw [fl_one hA.one hg hf h9];exact ⟨(hw.trans hx).size,heap_alloc_new wx _⟩
     ·exact (hst.new g hg G e).ext he
    ·unfold updA at e1 e2
     split at e1
     ·split at e2
      ·rename_i h8 h9;exact absurd (h8.trans h9.symm) hne
      ·cases e1
       have:=(hst.new k hk K e2).lt;omega
     ·split at e2
      ·cases e2
       have:=(hst.new g hg G e1).lt;omega
      ·exact hst.ne g hg k hk hne G K e1 e2
 exact fun wx hx st hst=>key _ wx hx st hst rfl
theorem FloA.call {W0 w:World} {fs:List Fl} {N n:Nat} {D:List Nat} {B:Array Value} {L:List (Nat × Value)} (hA:FlsA P ops fs) (hS:∀ w',Ext W0 w'->S w') (hw:Ext W0 w) (i s:Nat) {o:Oper} (ho:ops[i]?=some o) (f:FuncId) (args:Array Value)
  {R:Value->World->Prop} (hc:∀ wx,Ext w wx->Calls P f args wx fun e w'=>∃ v,e=.returned v/\R v w'/\Ext wx w') (next:∀ v w',R v w'->Ext w w'->FloA P md ops Q S W0 fs N n (i :: D) B ((s,v) :: L) w')
  (hr:chkC md ops fs N D (some i)=true:=by kernel_rfl) (hrun:∀ T wx,(execOp (frA fs B L T).eval o).run P wx=.ok (.enter f args) wx:=by intro _ _;kernel_rfl) (hwa:∀ T,Region.wanted o (yielded ops (frA fs B L T).tmps)=true:=by intro _;kernel_rfl)
  (hp:∀ v T,(frA fs B L T).put o.dst v=frA fs B ((s,v) :: L) T:=by intro _ _;kernel_rfl):FloA P md ops Q S W0 fs N (n+1) D B L w:=by
 refine FloA.of hA hS hw (some i) hr ?_ (fun h=>by cases h);intro wx hx st hst k hk
 cases hk
 refine wpOp_callA ho (hwa _) (hrun _ _) (hc wx hx) fun v w' ⟨hv,hx'⟩=>?_
 rw [hp,dnA_set];refine ⟨hS _ ((hw.trans hx).trans hx'),?_⟩;have:=next v w' hv (hx.trans hx') w' (Ext.refl _) st (hst.ext hx');rw [dnA_congr N (D:=i :: ((doneA fs st).map Fl.j++D)) (E:=(doneA fs st).map Fl.j++i :: D) (fun j=>by simp only [List.mem_cons,List.mem_append];exact or_left_comm)];exact this
theorem FloA.take {W0 w:World} {fs:List Fl} {N n:Nat} {D:List Nat} {B:Array Value} {L:List (Nat × Value)} (hS:∀ w',Ext W0 w'->S w') (hw:Ext W0 w) (i s:Nat) (v:Value) {o:Oper} (ho:ops[i]?=some o)
  (hv:∀ T w',S w'->(execOp (frA fs B L T).eval o).run P w'=.ok (.value v) w') (next:FloA P md ops Q S W0 fs N n (i :: D) B ((s,v) :: L) w)
  (hr:chkT md ops fs N D i=true:=by kernel_rfl) (hs:Region.noSelect ops=true:=by kernel_rfl) (hwa:∀ T,Region.wanted o (yielded ops (frA fs B L T).tmps)=true:=by intro _;kernel_rfl) (hQ:∀ c a w,Q (.panic c) (a.put o.dst v) w->Q (.panic c) a w:=by exact fun _ _ _ h=>h)
  (hp:∀ T,(frA fs B L T).put o.dst v=frA fs B ((s,v) :: L) T:=by intro _;kernel_rfl):FloA P md ops Q S W0 fs N (n+1) D B L w:=by
 intro wx hx st hst;have hc:=List.all_eq_true.1 hr _ (subsA_filter (fun f=>(st f.d).isSome) fs);rw [Bool.and_eq_true] at hc;rw [show n+1+leftA fs st=(n+leftA fs st)+1 by omega];refine wpAnyH_take ho hs hc.1 hc.2 hQ (Or.inl ⟨hwa _,hv _⟩) (hS _ (hw.trans hx)) ?_;have:=next wx hx st hst;rw [hp,<-show dnA N (i :: ((doneA fs st).map Fl.j++D))=(dnA N ((doneA fs st).map Fl.j++D)).setIfInBounds i true from (dnA_set _ _ _).symm,dnA_congr N (D:=i :: ((doneA fs st).map Fl.j++D)) (E:=(doneA fs st).map Fl.j++i :: D) (fun j=>by simp only [List.mem_cons,List.mem_append];exact or_left_comm)];exact this
theorem FloA.move {W0 w:World} {fs:List Fl} {N n:Nat} {D:List Nat} {B:Array Value} {L:List (Nat × Value)} (hS:∀ w',Ext W0 w'->S w') (hw:Ext W0 w) (i s:Nat) (v:Value) {o:Oper} (ho:ops[i]?=some o)
  (next:FloA P md ops Q S W0 fs N n (i :: D) B ((s,v) :: L) w) (hv:∀ T w',(execOp (frA fs B L T).eval o).run P w'=.ok (.value v) w':=by intro _ _;kernel_rfl)
  (hr:chkT md ops fs N D i=true:=by kernel_rfl) (hs:Region.noSelect ops=true:=by kernel_rfl) (hwa:∀ T,Region.wanted o (yielded ops (frA fs B L T).tmps)=true:=by intro _;kernel_rfl) (hQ:∀ c a w,Q (.panic c) (a.put o.dst v) w->Q (.panic c) a w:=by exact fun _ _ _ h=>h)
  (hp:∀ T,(frA fs B L T).put o.dst v=frA fs B ((s,v) :: L) T:=by intro _;kernel_rfl):FloA P md ops Q S W0 fs N (n+1) D B L w:=FloA.take hS hw i s v ho (fun T w' _=>hv T w') next hr hs hwa hQ hp
theorem FloA.done {W0 w:World} {fs:List Fl} {N n:Nat} {D:List Nat} {B:Array Value} {L:List (Nat × Value)} (hA:FlsA P ops fs) (hS:∀ w',Ext W0 w'->S w') (hw:Ext W0 w)
  (h:∀ wx,Ext w wx->∀ st,OkA W0 wx fs st->leftA fs st=0->wpAnyH P md ops Q S (n+1) (dnA N (fs.map Fl.j++D)) (frA fs B L (valA B st)) wx)
  (hr:chkC md ops fs N D none=true:=by kernel_rfl):FloA P md ops Q S W0 fs N (n+1) D B L w:=by
 refine FloA.of hA hS hw none hr (fun _ _ _ _ _ h=>by cases h) ?_;intro _ wx hx st hst hl
 have e:doneA fs st=fs:=by
  unfold doneA
  refine List.filter_eq_self.2 fun f hf=>?_
  unfold leftA at hl;have:=List.filter_eq_nil_iff.1 (List.length_eq_zero_iff.1 hl) f hf
  cases h9:st f.d<;>simp_all
 rw [e];exact h wx hx st hst hl
theorem FloA.done1 {W0 w:World} {f:Fl} {N n:Nat} {D:List Nat} {B:Array Value} {L:List (Nat × Value)} (hA:FlsA P ops [f]) (hS:∀ w',Ext W0 w'->S w') (hw:Ext W0 w)
  (h:∀ wx,Ext w wx->∀ G,NewA W0 wx f G->wpAnyH P md ops Q S (n+1) (dnA N (f.j :: D)) (fbA B ((f.d,ptrA G) :: L)) wx)
  (hr:chkC md ops [f] N D none=true:=by kernel_rfl):FloA P md ops Q S W0 [f] N (n+1) D B L w:=by
 refine FloA.done hA hS hw ?_ hr;intro wx hx st hst hl
 cases e:st f.d with
 | none=>unfold leftA at hl;simp [e] at hl
 | some G =>
  have:=h wx hx G (hst.new f (List.mem_singleton.2 rfl) G e)
  have e2:valA B st f.d=ptrA G:=by unfold valA;rw [e]
  unfold frA;simp only [List.map_cons,List.map_nil,e2];exact this
theorem anyH_oneA {i:Nat} {o:Oper} {n:Nat} {l:Array Bool} {a:Act} {w:World} (hr:Region.ready md ops l=[i]) (ho:ops[i]?=some o)
  (h:∀ K':Act->World->Prop,Shut (∀ a w,S w->wpAnyH P md ops Q S n (l.setIfInBounds i true) a w->K' a w)->if Region.wanted o (yielded ops a.tmps)=true then Oper.wp P o a w K' Q else K' (a.put o.dst undef) w) :
  wpAnyH P md ops Q S (n+1) l a w:=by
 refine ⟨fun h0=>(by rw [hr] at h0;cases h0),fun j hj=>?_⟩;rw [hr] at hj
 rcases List.mem_singleton.1 hj with rfl
 exact wpOp_step ho (fun K' hK=>h K' (fun a w hS hW=>hK a w ⟨hS,hW⟩))
end
theorem exec_rowA {P:Program} {ρ:Operand->Value} {o:Oper} {w:World} {ty t:TypeId} {x:Operand} {g:Nat} {cs:Array Value} {fr:Nat × Nat} {d:TypeDesc} (hg:w.heap[g]?=some (.cells cs t fr)) (hu:P.underlying ty=some d) (hi:(P.info? ty).map (·.size)=some cs.size)
  (hd:(match d with | .struct _ | .array _ _=>true | _=>false)=true:=by rfl) (ho:o.op=.load ty x:=by rfl) (hx:ρ x=.pointer (some ⟨g,0,none⟩):=by kernel_rfl):(execOp ρ o).run P w=.ok (.value (.agg cs)) w:=by
 unfold execOp;simp only [ho,hx,Instr.loadAt,Instr.sureAddr,Sem.run_bind,Sem.run_pure,Result.andThen_ok,run_loadVar_row w g t ty cs fr d hg hu hd hi]
theorem pc_smF:∀ (n v:Nat),pcF n v=smF (fun j=>b1 (v.testBit j)) n
 | 0,_=>rfl
 | n+1,v=>by
  rw [smF_front]
  show v % 2+pcF n (v / 2)=_
  rw [pc_smF n (v / 2)]
  have e:smF (fun j=>b1 ((v / 2).testBit j)) n=smF (fun j=>b1 (v.testBit (j+1))) n:=smF_congr fun j _=>by rw [<-Nat.testBit_succ]
  rw [e,Nat.testBit_zero];generalize smF (fun j=>b1 (v.testBit (j+1))) n=A
  by_cases h:v % 2=1
  ·rw [decide_eq_true h];show v % 2+A=1+A;omega
  ·rw [decide_eq_false h];show v % 2+A=0+A;omega
theorem pc_ys (p:QP):pcF 16 (p.x &&& p.z)=smF (yj p) 16:=by
 rw [pc_smF]
 exact smF_congr fun j _=>by rw [Nat.testBit_and];rfl
theorem pc_le:∀ (n v:Nat),pcF n v<=n
 | 0,_=>Nat.le_refl _
 | n+1,v=>by
  have:=pc_le n (v / 2)
  show v % 2+pcF n (v / 2)<=n+1
  omega
def qrN (p r:QP):Int:=((pcF 16 (p.x &&& p.z):Nat):Int)+((pcF 16 (r.x &&& r.z):Nat):Int)-((pcF 16 ((p.x ^^^ r.x) &&& (p.z ^^^ r.z)):Nat):Int)+2*((pcF 16 (p.z &&& r.x):Nat):Int)
theorem tim_qr {p r:QP} (h:ant p r=false):timQ p r=⟨p.x ^^^ r.x,p.z ^^^ r.z,(p.m ^^ r.m) ^^ decide (qrN p r % 4=2)⟩/\qrN p r % 2=0:=by
 have he:=qt_even p r;rw [h] at he;have he:qtQ p r % 2=0:=he;have hq:qtQ p r=(2*b1 p.m+smF (yj p) 16)+(2*b1 r.m+smF (yj r) 16)+smF (cj p r) 16+3*smF (yj (lpQ p r)) 16:=rfl
 have hc:smF (cj p r) 16=2*pcF 16 (p.z &&& r.x):=by
  rw [pc_smF,<-smF_two]
  exact smF_congr fun j _=>by rw [Nat.testBit_and];rfl
 have h3:=pc_ys (lpQ p r);have h3:pcF 16 ((p.x ^^^ r.x) &&& (p.z ^^^ r.z))=smF (yj (lpQ p r)) 16:=h3;unfold qrN;rw [pc_ys,pc_ys,h3];rw [hc] at hq;generalize smF (yj p) 16=A at *;generalize smF (yj r) 16=B at *;generalize smF (yj (lpQ p r)) 16=C at *;generalize pcF 16 (p.z &&& r.x)=D at *
 refine ⟨QP.ext' rfl rfl ?_,by cases h1:p.m<;>cases h2:r.m<;>rw [h1,h2] at hq<;>simp only [b1,if_true,Bool.false_eq_true,if_false] at hq<;>omega⟩
 show decide (qtQ p r % 4=2)=((p.m ^^ r.m) ^^ decide (((A:Int)+(B:Int)-(C:Int)+2*(D:Int)) % 4=2))
 generalize qtQ p r=Q at *
 have hn:∀ {a b:Prop} [Decidable a] [Decidable b],(a↔¬ b)->decide a=!(decide b):=fun {a b} _ _ h=>by by_cases hb:b<;>simp [h,hb]
 cases h1:p.m<;>cases h2:r.m<;>rw [h1,h2] at hq
 ·have hq:Q=(2*0+A)+(2*0+B)+2*D+3*C:=hq
  rw [Bool.xor_self,Bool.false_xor];exact decide_eq_decide.2 (by omega)
 ·have hq:Q=(2*0+A)+(2*1+B)+2*D+3*C:=hq
  rw [Bool.false_xor,Bool.true_xor];exact hn (by omega)
 ·have hq:Q=(2*1+A)+(2*0+B)+2*D+3*C:=hq
  rw [Bool.xor_false,Bool.true_xor];exact hn (by omega)
 ·have hq:Q=(2*1+A)+(2*1+B)+2*D+3*C:=hq
  rw [Bool.xor_self,Bool.false_xor];exact decide_eq_decide.2 (by omega)
theorem ys_any (p:QP) (hp:p.ok) (w:World) :
  Calls Tryz.prog 186 #[pvQ p] w fun e w'=>e=.returned (.int .i64 ((pcF 16 (p.x &&& p.z):Nat):Int))/\Ext w w':=by
 obtain ⟨x,z,m⟩:=p;have e1:=and_u16 hp.1 hp.2;obtain ⟨Y,hY⟩:∃ Y,x &&& z=Y:=⟨_,rfl⟩
 have bY:Y<65536:=by rw [<-hY];exact Nat.lt_of_le_of_lt Nat.and_le_left hp.1
 simp only [hY] at e1 ⊢;have HO:=Lh (fun wx=>OnesCount16_any Y wx bY);obtain ⟨n,hn⟩:∃ n,pcF 16 Y=n:=⟨_,rfl⟩;rw [hn] at HO ⊢;clear hY hn hp bY;unfold pvQ
 go_enter Tryz.func186,Tryz.ntmps186
 go_wp2_with fail
 refine (HO.out _).mono ?_;rintro e w1 ⟨rfl,h1⟩;have H1:=Lh h1;clear h1
 go_wp2_with fail
 go_ret
 exact ⟨rfl,(ext_al _ _).trans H1.out⟩
theorem exec_cellA {P:Program} {ρ:Operand->Value} {o:Oper} {w:World} {ty:TypeId} {x:Operand} {g off:Nat} {v:Value} {d:TypeDesc} (hc:w.cell? ⟨g,off,none⟩=some v) (hu:P.underlying ty=some d)
  (hd:(match d with | .struct _ | .array _ _=>true | _=>false)=false:=by rfl) (ho:o.op=.load ty x:=by rfl) (hx:ρ x=.pointer (some ⟨g,off,none⟩):=by kernel_rfl):(execOp ρ o).run P w=.ok (.value v) w:=by
 have hagg:(isAgg ty).run P w=.ok false w:=by
  unfold isAgg;rw [Sem.run_bind,run_underlying hu w]
  cases d<;>simp_all
 unfold execOp
 simp [ho,hx,Instr.loadAt,Instr.sureAddr,loadVar,Sem.run_bind,hagg,run_load,hc]
theorem stepK_val {P:Program} {ops:Array Oper} {o:Oper} {a:Act} {K:Act->World->Prop} {Q:Exit->Act->World->Prop} {E:Prop} {w:World} {v:Value} (d:Nat) (hd:o.dst=some d) (hgd:o.guard=none) (hrun:(execOp a.eval o).run P w=.ok (.value v) w) (h:K ⟨a.tmps.setIfInBounds d v,a.defers⟩ w) :
  if Region.wanted o (yielded ops a.tmps)=true then Oper.wp P o a w K Q else E:=by
 rw [if_pos (by simp [Region.wanted,hgd])];unfold Oper.wp;rw [hrun,Oper.upon_value,hd];exact h
structure TwP (w:World) (H x z:Nat) (m:Bool) (x' z':Nat) (m':Bool):Prop where
 a:PuB w H x z m
 b:PuB w (H+1) x' z' m'
structure TrB (u w:World) (H:Nat) (p r s:QP):Prop where
 e:Ext u w
 a:PuB w H p.x p.z p.m
 b:PuB w (H+1) r.x r.z r.m
 c:PuB w (H+2) s.x s.z s.m
 o:u.heap.size<=H
theorem TrB.ext {u w w':World} {H:Nat} {p r s:QP} (h:TrB u w H p r s) (x:Ext w w'):TrB u w' H p r s:=⟨h.e.trans x,h.a.ext x,h.b.ext x,h.c.ext x,h.o⟩
theorem TrB.new (w:World) (p r:QP):TrB w (((w.alloc (.cells #[.int .u16 (p.x:Int),.int .u16 (p.z:Int),.bool p.m] 103)).alloc (.cells #[.int .u16 (r.x:Int),.int .u16 (r.z:Int),.bool r.m] 103)).alloc (.cells #[.int .u16 0,.int .u16 0,.bool false] 103)) w.heap.size p r ⟨0,0,false⟩:=by
 have b1:=PuB.new w p.x p.z p.m;generalize hV1:w.alloc (.cells #[.int .u16 (p.x:Int),.int .u16 (p.z:Int),.bool p.m] 103)=V1 at *
 have e1:Ext w V1:=by rw [<-hV1];exact ext_al _ _
 have s1:V1.heap.size=w.heap.size+1:=by rw [<-hV1,World.size_alloc]
 have b2:=PuB.new V1 r.x r.z r.m;generalize hV2:V1.alloc (.cells #[.int .u16 (r.x:Int),.int .u16 (r.z:Int),.bool r.m] 103)=V2 at *
 have e2:Ext V1 V2:=by rw [<-hV2];exact ext_al _ _
 have s2:V2.heap.size=w.heap.size+2:=by rw [<-hV2,World.size_alloc,s1]
 have b3:PuB (V2.alloc (.cells #[.int .u16 0,.int .u16 0,.bool false] 103)) V2.heap.size 0 0 false:=⟨heap_alloc_new V2 _⟩;have e3:=ext_al V2 (.cells #[.int .u16 0,.int .u16 0,.bool false] 103);rw [s1] at b2;rw [s2] at b3;exact ⟨(e1.trans e2).trans e3,b1.ext (e2.trans e3),b2.ext e3,b3,Nat.le_refl _⟩
theorem pq_info:(Tryz.prog.info? 103).map (·.size)=some 3:=by kernel_rfl
theorem meet_any (p r:QP) (hp:p.ok) (hr:r.ok) (w:World) :
  Calls Tryz.prog 182 #[pvQ p,pvQ r] w fun e w'=>e=.returned (.tuple #[.agg #[.int .u16 ((p.x ^^^ r.x:Nat):Int),.int .u16 ((p.z ^^^ r.z:Nat):Int),.bool (p.m ^^ r.m)],.int .i64 (qrN p r)])/\Ext w w':=by
 obtain ⟨x,z,m⟩:=p;obtain ⟨x',z',m'⟩:=r;obtain ⟨hx,hz⟩:=hp;obtain ⟨hx',hz'⟩:=hr;simp only at hx hz hx' hz';have HL:=Lh (fun wx=>Letters_any x z x' z' m m' wx hx hz hx' hz');have hX:=xor_16 hx hx';have hZ:=xor_16 hz hz';have ha:=and_u16 hz hx';have HY1:=Lh (fun wx=>ys_any ⟨x,z,m⟩ ⟨hx,hz⟩ wx);have HY2:=Lh (fun wx=>ys_any ⟨x',z',m'⟩ ⟨hx',hz'⟩ wx);have HY3:=Lh (fun wx=>ys_any ⟨x ^^^ x',z ^^^ z',m ^^ m'⟩ ⟨hX,hZ⟩ wx);have HO:=Lh (fun wx=>OnesCount16_any (z &&& x') wx (and_16 hz));have q1:=pc_le 16 (x &&& z);have q2:=pc_le 16 (x' &&& z');have q3:=pc_le 16 ((x ^^^ x') &&& (z ^^^ z'));have q4:=pc_le 16 (z &&& x')
 show Calls _ _ _ _ fun e w'=>e=.returned (.tuple #[.agg #[.int .u16 ((x ^^^ x':Nat):Int),.int .u16 ((z ^^^ z':Nat):Int),.bool (m ^^ m')],.int .i64 (((pcF 16 (x &&& z):Nat):Int)+((pcF 16 (x' &&& z'):Nat):Int)-((pcF 16 ((x ^^^ x') &&& (z ^^^ z')):Nat):Int)+2*((pcF 16 (z &&& x'):Nat):Int))])/\Ext w w'
 simp only [pvQ,pv] at HL HY1 HY2 HY3 ⊢;obtain ⟨a,hA⟩:∃ a,pcF 16 (x &&& z)=a:=⟨_,rfl⟩;obtain ⟨b,hB⟩:∃ a,pcF 16 (x' &&& z')=a:=⟨_,rfl⟩;obtain ⟨c,hC⟩:∃ a,pcF 16 ((x ^^^ x') &&& (z ^^^ z'))=a:=⟨_,rfl⟩;obtain ⟨d,hD⟩:∃ a,pcF 16 (z &&& x')=a:=⟨_,rfl⟩;simp only [hA,hB,hC,hD] at HY1 HY2 HY3 HO q1 q2 q3 q4 ⊢;obtain ⟨X,hX1⟩:∃ X,x ^^^ x'=X:=⟨_,rfl⟩;obtain ⟨Z,hZ1⟩:∃ Z,z ^^^ z'=Z:=⟨_,rfl⟩;obtain ⟨N,hN1⟩:∃ N,z &&& x'=N:=⟨_,rfl⟩;obtain ⟨M,hM1⟩:∃ M,(m ^^ m')=M:=⟨_,rfl⟩;have HT:=Lh (fun wx=>turnedIf_any X Z false M wx);have HM:=Lh (show (m != m')=M from hM1);have hm:(m != m')=M:=hM1
 have hm2:(!(m == m'))=M:=by rw [<-hM1];cases m<;>cases m'<;>rfl
 have hm3:decide (m=m')=!M:=by rw [<-hM1];cases m<;>cases m'<;>rfl
 simp only [hX1,hZ1,hM1,hN1,Bool.false_xor] at HL HY3 HO HT ha ⊢
 have w1:IntKind.i64.wrap ((a:Int)+(b:Int))=((a+b:Nat):Int):=by rw [IntKind.wrap_i64];omega
 have w2:IntKind.i64.wrap (((a+b:Nat):Int)-(c:Int))=(a:Int)+(b:Int)-(c:Int):=by rw [IntKind.wrap_i64];omega
 have w3:IntKind.i64.wrap (2*(d:Int))=((2*d:Nat):Int):=by rw [IntKind.wrap_i64];omega
 have w4:IntKind.i64.wrap ((a:Int)+(b:Int)-(c:Int)+((2*d:Nat):Int))=(a:Int)+(b:Int)-(c:Int)+2*(d:Int):=by rw [IntKind.wrap_i64];omega
 have hT3:=TrB.new w ⟨x,z,m⟩ ⟨x',z',m'⟩;obtain ⟨H,hH⟩:∃ H,w.heap.size=H:=⟨_,rfl⟩;obtain ⟨W0,hW0⟩:∃ V,(((w.alloc (.cells #[.int .u16 (x:Int),.int .u16 (z:Int),.bool m] 103)).alloc (.cells #[.int .u16 (x':Int),.int .u16 (z':Int),.bool m'] 103)).alloc (.cells #[.int .u16 0,.int .u16 0,.bool false] 103))=V:=⟨_,rfl⟩;simp only [hW0,hH] at hT3;have HT3:=Lh hT3;have HW0:=Lh hW0;have HH:=Lh hH;have k0:=hT3.a.x2;have k1:=hT3.b.x2;have k2:=hT3.a.x1;have k3:=hT3.b.x0;have HW:=Lh (And.intro w1 (And.intro w2 (And.intro w3 w4)));clear hX1 hZ1 hN1 hM1 hA hB hC hD hx hz hx' hz' hX hZ q1 q2 q3 q4 hT3 hW0 hH w1 w2 w3 w4
 go_enter Tryz.func182,Tryz.ntmps182
 go_upto_region 1 with fail
 rw [HW0.out,HH.out];have HX0:=Lh HT3.out.c.lt;have HHw:=Lh (show w.heap.size=H from HH.out);have he0:Ext W0 W0.drew:=Below.drew (Ext.refl _)
 have HS:∀ w',Ext W0 w'->TwP w' H x z m x' z' m':=fun w' hx=>⟨HT3.out.a.ext hx,HT3.out.b.ext hx⟩
 refine wp_region_held (S:=fun w'=>TwP w' H x z m x' z' m') (by kernel_rfl) ?_;generalize hops:(#[_,_,_,_,_,_,_,_,_,_,_]:Array Oper)=ops
 have hA:FlsA Tryz.prog ops [⟨9,6,103,#[.int .u16 0,.int .u16 0,.bool false]⟩]:=by
  subst hops;exact .of1 ⟨_,rfl,rfl,fun _=>rfl,fun _ _=>by kernel_rfl⟩
 subst hops;refine FloA.start [⟨9,6,103,#[.int .u16 0,.int .u16 0,.bool false]⟩] 11 10 11 (.take HS he0 0 7 (.agg #[.int .u16 (x:Int),.int .u16 (z:Int),.bool m]) rfl (fun _ _ h=>exec_rowA h.a.row Tryz.underlying103 pq_info) ?_);refine .take HS he0 1 8 (.agg #[.int .u16 (x':Int),.int .u16 (z':Int),.bool m']) rfl (fun _ _ h=>exec_rowA h.b.row Tryz.underlying103 pq_info) ?_;refine .move HS he0 3 10 (.pointer (some ⟨H,2,none⟩)) rfl ?_;refine .take HS he0 4 11 (.bool m) rfl (fun _ _ h=>exec_cellA h.a.x2 Tryz.underlying4) ?_;refine .move HS he0 5 12 (.pointer (some ⟨H+1,2,none⟩)) rfl ?_;refine .take HS he0 6 13 (.bool m') rfl (fun _ _ h=>exec_cellA h.b.x2 Tryz.underlying4) ?_;refine .take HS he0 7 14 (.bool M) rfl (fun _ _ _=>by rw [<-HM.out];kernel_rfl) ?_;refine .call hA HS he0 2 9 rfl _ _ (R:=fun v _=>v=.agg #[.int .u16 (X:Int),.int .u16 (Z:Int),.bool false]) (fun wx _=>(HL.out wx).mono fun _ _ h=>⟨_,h.1,rfl,h.2⟩) ?_;rintro _ v9 rfl q9;have e9:=he0.trans q9;refine .call hA HS e9 8 15 rfl _ _ (R:=fun v _=>v=.agg #[.int .u16 (X:Int),.int .u16 (Z:Int),.bool M]) (fun wx _=>(HT.out wx).mono fun _ _ h=>⟨_,h.1,rfl,h.2⟩) ?_;rintro _ v10 rfl q10;have e10:=e9.trans q10;refine .done1 hA HS e10 ?_;intro wy hy D6 hD;have hEy:=e10.trans hy;simp only [fbA,List.foldr,sx0,sx1,sx2,ptrA];refine anyH_oneA (i:=10) (by kernel_rfl) rfl (fun Kk hKk=>?_);refine stepK_storeRowC rfl rfl 103 _ _ rfl D6 #[.int .u16 (X:Int),.int .u16 (Z:Int),.bool M] rfl rfl 103 _ hD.2 pq_info rfl (by simp [Value.oneCell']) ?_;have on1:=setRow_onlyC wy D6 #[.int .u16 (X:Int),.int .u16 (Z:Int),.bool M];have hX1:Ext W0 (wy.setRow D6 #[.int .u16 (X:Int),.int .u16 (Z:Int),.bool M]):=ext_onlyC hEy on1 hD.1;refine hKk.out _ _ (HS _ hX1) ?_;clear hKk Kk;refine wpAnyH_done (by kernel_rfl) ?_ _;have HP:=Lh (show PuB (wy.setRow D6 #[.int .u16 (X:Int),.int .u16 (Z:Int),.bool M]) D6 X Z M from ⟨setRow_heap wy D6 _ _ _ _ hD.2⟩);have HT3:=Lh (HT3.out.ext hX1);have HD6:=Lh (show D6≠H+2 by have:=hD.1;have:=HT3.out.c.lt;have:=HT3.out.o;have:=hD.lt;have hc:=HX0.out;omega)
 generalize wy.setRow D6 #[.int .u16 (X:Int),.int .u16 (Z:Int),.bool M]=W1 at *;clear hX1 on1 hD hy hEy hA HS he0 e9 e10 q9 q10 HL HT HM hm hm2 hm3 k0 k1 k2 k3;have he0:Ext W1 W1.drew:=Below.drew (Ext.refl _)
 have HS:∀ w',Ext W1 w'->TwP w' H x z m x' z' m'/\PuB w' D6 X Z M:=fun w' hx=>⟨⟨HT3.out.a.ext hx,HT3.out.b.ext hx⟩,HP.out.ext hx⟩
 go_upto_region 2 with fail
 refine wp_region_held (S:=fun w'=>TwP w' H x z m x' z' m'/\PuB w' D6 X Z M) (by kernel_rfl) ?_
 have hA:∀ ops,FlsA Tryz.prog ops []:=fun _=>⟨fun _ h=>(by cases h),by simp⟩
 refine FloA.start [] 19 19 19 (.take HS he0 0 16 (.agg #[.int .u16 (X:Int),.int .u16 (Z:Int),.bool M]) rfl (fun _ _ h=>exec_rowA h.2.row Tryz.underlying103 pq_info) ?_);refine .take HS he0 1 17 (.agg #[.int .u16 (x:Int),.int .u16 (z:Int),.bool m]) rfl (fun _ _ h=>exec_rowA h.1.a.row Tryz.underlying103 pq_info) ?_;refine .take HS he0 3 19 (.agg #[.int .u16 (x':Int),.int .u16 (z':Int),.bool m']) rfl (fun _ _ h=>exec_rowA h.1.b.row Tryz.underlying103 pq_info) ?_;refine .take HS he0 6 22 (.agg #[.int .u16 (X:Int),.int .u16 (Z:Int),.bool M]) rfl (fun _ _ h=>exec_rowA h.2.row Tryz.underlying103 pq_info) ?_;refine .move HS he0 9 25 (.pointer (some ⟨H,1,none⟩)) rfl ?_;refine .take HS he0 10 26 (.int .u16 (z:Int)) rfl (fun _ _ h=>exec_cellA h.1.a.x1 Tryz.underlying101) ?_;refine .move HS he0 11 27 (.pointer (some ⟨H+1,0,none⟩)) rfl ?_;refine .take HS he0 12 28 (.int .u16 (x':Int)) rfl (fun _ _ h=>exec_cellA h.1.b.x0 Tryz.underlying101) ?_;refine .take HS he0 13 29 (.int .u16 (N:Int)) rfl (fun _ _ _=>by rw [<-ha];kernel_rfl) ?_;refine .call (hA _) HS he0 2 18 rfl _ _ (R:=fun v _=>v=.int .i64 (a:Int)) (fun wx _=>(HY1.out wx).mono fun _ _ h=>⟨_,h.1,rfl,h.2⟩) ?_;rintro _ v1 rfl q1;have e1:=he0.trans q1;refine .call (hA _) HS e1 4 20 rfl _ _ (R:=fun v _=>v=.int .i64 (b:Int)) (fun wx _=>(HY2.out wx).mono fun _ _ h=>⟨_,h.1,rfl,h.2⟩) ?_;rintro _ v2 rfl q2;have e2:=e1.trans q2;refine .take HS e2 5 21 (.int .i64 ((a+b:Nat):Int)) rfl (fun _ _ _=>by rw [<-HW.out.1];kernel_rfl) ?_;refine .call (hA _) HS e2 7 23 rfl _ _ (R:=fun v _=>v=.int .i64 (c:Int)) (fun wx _=>(HY3.out wx).mono fun _ _ h=>⟨_,h.1,rfl,h.2⟩) ?_;rintro _ v3 rfl q3;have e3:=e2.trans q3;refine .take HS e3 8 24 (.int .i64 ((a:Int)+(b:Int)-(c:Int))) rfl (fun _ _ _=>by rw [<-HW.out.2.1];kernel_rfl) ?_;refine .call (hA _) HS e3 14 30 rfl _ _ (R:=fun v _=>v=.int .i64 (d:Int)) (fun wx _=>(HO.out wx).mono fun _ _ h=>⟨_,h.1,rfl,h.2⟩) ?_;rintro _ v4 rfl q4;have e4:=e3.trans q4;refine .take HS e4 15 31 (.int .i64 ((2*d:Nat):Int)) rfl (fun _ _ _=>by rw [<-HW.out.2.2.1];kernel_rfl) ?_
 refine .take HS e4 16 32 (.int .i64 ((a:Int)+(b:Int)-(c:Int)+2*(d:Int))) rfl (fun _ _ _=>by rw [<-HW.out.2.2.2];kernel_rfl) ?_;refine .done (hA _) HS e4 ?_;intro wy hy st hst hl;have hEy:=e4.trans hy;simp only [frA,fbA,List.map_nil,List.nil_append,List.foldr,sx0,sx1,sx2];refine anyH_oneA (i:=17) (by kernel_rfl) rfl (fun Kk hKk=>?_);refine stepK_storeRowC rfl rfl 103 _ _ rfl (H+2) #[.int .u16 (X:Int),.int .u16 (Z:Int),.bool M] rfl rfl 103 _ (HT3.out.c.ext hEy).row pq_info rfl (by simp [Value.oneCell']) ?_;have on2:=setRow_onlyC wy (H+2) #[.int .u16 (X:Int),.int .u16 (Z:Int),.bool M];have HD6:=HD6.out;have HR:=Lh (show PuB (wy.setRow (H+2) #[.int .u16 (X:Int),.int .u16 (Z:Int),.bool M]) (H+2) X Z M from ⟨setRow_heap wy (H+2) _ _ _ _ (HT3.out.c.ext hEy).row⟩);have HE2:=Lh (show Ext w (wy.setRow (H+2) #[.int .u16 (X:Int),.int .u16 (Z:Int),.bool M]) from ext_onlyC (HT3.out.e.trans hEy) on2 (by rw [HHw.out];omega));have HSf:=Lh (show TwP (wy.setRow (H+2) #[.int .u16 (X:Int),.int .u16 (Z:Int),.bool M]) H x z m x' z' m'/\PuB (wy.setRow (H+2) #[.int .u16 (X:Int),.int .u16 (Z:Int),.bool M]) D6 X Z M from ⟨⟨(HT3.out.a.ext hEy).only on2 (by omega),(HT3.out.b.ext hEy).only on2 (by omega)⟩,(HP.out.ext hEy).only on2 HD6⟩);refine hKk.out _ _ HSf.out ?_;clear hKk Kk;generalize wy.setRow (H+2) #[.int .u16 (X:Int),.int .u16 (Z:Int),.bool M]=W2 at *;refine anyH_oneA (i:=18) (by kernel_rfl) rfl (fun Kk hKk=>?_);refine stepK_val (v:=.int .i64 ((a:Int)+(b:Int)-(c:Int)+2*(d:Int))) 5 rfl rfl (by kernel_rfl) ?_;refine hKk.out _ _ HSf.out ?_;clear hKk Kk;refine wpAnyH_done (by kernel_rfl) ?_ _;simp only [sx0,sx1,sx2]
 go_wp2_with fail
 have x0:W2.cell? ⟨H+1+1,0,none⟩=_:=HR.out.x0;have x1:W2.cell? ⟨H+1+1,1,none⟩=_:=HR.out.x1;have x2:W2.cell? ⟨H+1+1,2,none⟩=_:=HR.out.x2;exact bodyPost_ret (v:=.tuple #[.agg #[.int .u16 (X:Int),.int .u16 (Z:Int),.bool M],.int .i64 ((a:Int)+(b:Int)-(c:Int)+2*(d:Int))]) (by simp [results,Tryz.results182,go_sem,x0,x1,x2]) rfl ⟨rfl,HE2.out⟩
theorem and_two:∀ i:Nat,i<128->bits .and .i64 ((i:Int)-32) 2=if 2<=((i:Int)-32) % 4 then 2 else 0:=by
 have h:∀ i:Fin 128,bits .and .i64 ((i.1:Int)-32) 2=if 2<=((i.1:Int)-32) % 4 then 2 else 0:=by decide +kernel
 exact fun i hi=>h ⟨i,hi⟩
theorem qr_bound (p r:QP) : -32<=qrN p r/\qrN p r<96:=by
 have q1:=pc_le 16 (p.x &&& p.z);have q2:=pc_le 16 (r.x &&& r.z);have q3:=pc_le 16 ((p.x ^^^ r.x) &&& (p.z ^^^ r.z));have q4:=pc_le 16 (p.z &&& r.x);unfold qrN;omega
theorem qr_and (p r:QP):bits .and .i64 (qrN p r) 2=if 2<=qrN p r % 4 then 2 else 0:=by
 have hb:=qr_bound p r;have h:=and_two (qrN p r+32).toNat (by omega)
 have e:(((qrN p r+32).toNat:Nat):Int)-32=qrN p r:=by omega
 rw [e] at h;exact h
theorem Times_any (p r:QP) (hp:p.ok) (hr:r.ok) (ha:ant p r=false) (w:World) :
  Calls Tryz.prog 166 #[pvQ p,pvQ r] w fun e w'=>e=.returned (pvQ (timQ p r))/\Ext w w':=by
 obtain ⟨ht,he⟩:=tim_qr ha;rw [ht];have HM:=Lh (fun wx=>meet_any p r hp hr wx);have hq:=qr_and p r;have hb:=qr_bound p r;have hT3:=TrB.new w p r;obtain ⟨X,hX⟩:∃ X,p.x ^^^ r.x=X:=⟨_,rfl⟩;obtain ⟨Z,hZ⟩:∃ X,p.z ^^^ r.z=X:=⟨_,rfl⟩;obtain ⟨M,hM⟩:∃ X,(p.m ^^ r.m)=X:=⟨_,rfl⟩;obtain ⟨q,hqq⟩:∃ X,qrN p r=X:=⟨_,rfl⟩;simp only [hX,hZ,hM,hqq] at HM hq hb he ⊢;obtain ⟨B,hB⟩:∃ B,decide (q % 4=2)=B:=⟨_,rfl⟩
 have hq2:bits .and .i64 q 2=if B=true then 2 else 0:=by
  rw [hq,<-hB]
  by_cases h:q % 4=2
  ·rw [if_pos (by omega),if_pos (decide_eq_true h)]
  ·rw [if_neg (by omega),if_neg (by rw [decide_eq_false h];decide)]
 have HTu:=Lh (fun wx=>turnedIf_any X Z M B wx);simp only [hB];obtain ⟨V,hV⟩:∃ V:Int,(if B=true then 2 else 0)=V:=⟨_,rfl⟩;rw [hV] at hq2
 have v1:(V != 0)=B:=by rw [<-hV];cases B<;>rfl
 have v2:(V == 0)=!B:=by rw [<-hV];cases B<;>rfl
 have v3:decide (V=0)=!B:=by rw [<-hV];cases B<;>rfl
 obtain ⟨x,z,m⟩:=p;obtain ⟨x',z',m'⟩:=r;simp only [pvQ] at HM ⊢;obtain ⟨H,hH⟩:∃ H,w.heap.size=H:=⟨_,rfl⟩;obtain ⟨W0,hW0⟩:∃ V,(((w.alloc (.cells #[.int .u16 (x:Int),.int .u16 (z:Int),.bool m] 103)).alloc (.cells #[.int .u16 (x':Int),.int .u16 (z':Int),.bool m'] 103)).alloc (.cells #[.int .u16 0,.int .u16 0,.bool false] 103))=V:=⟨_,rfl⟩;simp only [hW0,hH] at hT3;have HT3:=Lh hT3;have HW0:=Lh hW0;have HH:=Lh hH;have r1:=hT3.a.row;have r2:=hT3.b.row;clear hT3 hW0 hH hB hV hX hZ hM hqq hq ht he ha hp hr hb
 go_enter Tryz.func166,Tryz.ntmps166
 go_upto_region 1 with fail
 rw [HW0.out,HH.out]
 go_wp2_with (first | refine wpList_load_row rfl 103 _ rfl H rfl 103 _ (0,0) _ r1 Tryz.underlying103 rfl (by kernel_rfl) ?_ | refine wpList_load_row rfl 103 _ rfl (H+1) rfl 103 _ (0,0) _ r2 Tryz.underlying103 rfl (by kernel_rfl) ?_)
 refine (HM.out _).mono ?_;rintro e w1 ⟨rfl,x1⟩;have HT3:=Lh (HT3.out.ext x1);obtain ⟨K,hK⟩:∃ K,w1.heap.size=K:=⟨_,rfl⟩;have HX1:=Lh x1;have HK:=Lh hK;clear x1 r1 r2 hK
 go_upto_region 2 with fail
 rw [HK.out];obtain ⟨W1,hW1⟩:∃ V,w1.alloc (.cells #[.int .u16 (X:Int),.int .u16 (Z:Int),.bool M] 103)=V:=⟨_,rfl⟩
 have E1:Ext w1 W1:=by rw [<-hW1];exact ext_al _ _
 have r3:W1.heap[K]?=some (.cells #[.int .u16 (X:Int),.int .u16 (Z:Int),.bool M] 103 (0,0)):=by rw [<-hW1,<-HK.out];exact heap_alloc_new w1 _
 have HT3:=Lh (HT3.out.ext E1);rw [hW1];clear hW1 E1 HK HX1
 go_wp2_with (refine wpList_load_row rfl 103 _ rfl K rfl 103 _ (0,0) _ r3 Tryz.underlying103 rfl (by kernel_rfl) ?_)
 refine (HTu.out _).mono ?_;rintro e w2 ⟨rfl,x2⟩;have HT3:=Lh (HT3.out.ext x2);have HE:=Lh HT3.out.e;have HP:=Lh HT3.out.c;have hc:=HT3.out.c.row;have c0:w2.cell? ⟨H+1+1,0,none⟩=_:=HT3.out.c.x0;have f0:w2.frozen? ⟨H+1+1,0,none⟩=false:=HT3.out.c.f 0;have f1:w2.frozen? ⟨H+1+1,1,none⟩=false:=HT3.out.c.f 1;have f2:w2.frozen? ⟨H+1+1,2,none⟩=false:=HT3.out.c.f 2;have c1:w2.cell? ⟨H+1+1,1,none⟩=_:=HT3.out.c.x1;have c2:w2.cell? ⟨H+1+1,2,none⟩=_:=HT3.out.c.x2;clear x2 r3
 go_wp2_with fail
 have hp:=((HP.out.pt0 X).pt1 Z).pt2 (M ^^ B);have y0:=hp.x0;have y1:=hp.x1;have y2:=hp.x2;have hE:Ext w (((w2.setCell ⟨H+2,0,none⟩ (.int .u16 (X:Int))).setCell ⟨H+2,1,none⟩ (.int .u16 (Z:Int))).setCell ⟨H+2,2,none⟩ (.bool (M ^^ B))):=put3x HE.out (Nat.le_trans HT3.out.o (by omega)) _ _ _;exact bodyPost_ret (v:=.agg #[.int .u16 (X:Int),.int .u16 (Z:Int),.bool (M ^^ B)]) (by simp [results,Tryz.results166,go_sem,y0,y1,y2]) rfl ⟨rfl,hE⟩
end Go.Proofs.YtlechhmhmakgpaaGreatDoor
